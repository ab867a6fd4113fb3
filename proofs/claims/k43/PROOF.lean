import PyProof.Rows.All
import Wide.All
import OpenK.AllK
import Wide.FinOn
import HandS.ForMost
import HandS.TupAny
import HandS.TupMul
import HandS.IsInst
import HandS.Deep
import HandS.Conv
import KE.DataCmp
import HandS.Style
import HandS.SetFor
import HandS.Strs
import HandS.TupSets
import KE.SortData
import HandS.ExcValue
import HandS.Walk
import KE.KeyNested
import HandS.Text
import HandS.Codes
import HandS.StrMore
import PyProof.CollectStr
import PyProof.TupleOfSeq
import KE.GoesMore
import HandS.Iter
import HandS.Zip
import PyProof.SliceList
import PyProof.SliceStr2
import PyProof.Rows.StrRev
import PyProof.ListStr
import KE.KDictWalk
import KE.KDictKeyed
import PyProof.DictMoreH
import HandS.DictComp
import HandS.TupLen
import HandS.ReCall
import KE.KDictItemsList
import PyProof.DictRoads
import KE.KDictSum
import KE.KDictCopyH
import KE.KDictDisplayH
import KE.KIndexOf
import PySem.Challenge.RW_samebuilds_k43_whole_orders
set_option Elab.async false
set_option linter.all false
set_option maxRecDepth 100000
set_option maxHeartbeats 4000000
/-! Sb, the base: frames of heaps, tuples as data, what the draws ask for; two rules for a module's own dict of texts. -/
namespace Sb
open PySem PySem.Spec PyProof.Rows L2
/-! ### heaps: all but one address stands as it was -/
def Gx (st : Addr) (H H' : Hp) : Prop := ∀ b o, b ≠ st → H b = some o → H' b = some o
theorem Gx.refl (st : Addr) (H : Hp) : Gx st H H := fun _ _ _ h => h
theorem Gx.trans {st : Addr} {H H1 H2 : Hp} (a : Gx st H H1) (b : Gx st H1 H2) : Gx st H H2 := fun c o n h => b c o n (a c o n h)
theorem Gx.of {st : Addr} {H H' : Hp} (h : Same H H') : Gx st H H' := fun b o _ e => h b o e
theorem same_new {H : Hp} {p : Addr} {o : HO} (h : H p = none) : Same H (upd H p o) := fun b x e => by
  rw [upd_ne (ne_of_none e h)]
  exact e
theorem Gx.new {st : Addr} {H : Hp} {p : Addr} {o : HO} (h : H p = none) : Gx st H (upd H p o) := .of (same_new h)
theorem Gx.at_ {st : Addr} {H : Hp} {o : HO} : Gx st H (upd H st o) := fun b x n e => by
  rw [upd_ne n]
  exact e
/-- something new that is changed later -/
theorem Gx.mut {st p : Addr} {H H' : Hp} {o : HO} (g : Gx st H H') (h : H p = none) : Gx st H (upd H' p o) := fun b x n e => by
  rw [upd_ne (ne_of_none e h)]
  exact g b x n e
theorem Gx.free {st l : Addr} {H H' : Hp} (g : Gx st H H') (hs : (H st).isSome) (hs' : (H' st).isSome) (h : H' l = none) : H l = none := by
  cases q : H l with
  | none => rfl
  | some o =>
    by_cases e : l = st
    · subst e
      rw [h] at hs'
      cases hs'
    · rw [g l o e q] at h
      cases h
/-! ### tuples as data -/
mutual
inductive Tp (H : Hp) : V → PyData → Prop
  | non : Tp H .non .none
  | bl (b : Bool) : Tp H (.bl b) (.bool b)
  | int (i : Int) : Tp H (.int i) (.int i)
  | str (x : Str) : Tp H (.str x) (.str x)
  | tup {a : Addr} {xs : List V} {ds : List PyData} : H a = some (.tup xs) → TpAll H xs ds → Tp H (.ref a) (.tuple ds)
inductive TpAll (H : Hp) : List V → List PyData → Prop
  | nil : TpAll H [] []
  | cons {v : V} {vs : List V} {d : PyData} {ds : List PyData} : Tp H v d → TpAll H vs ds → TpAll H (v :: vs) (d :: ds)
end
/-- the tuples stand as they were -/
def KT (H H' : Hp) : Prop := ∀ a xs, H a = some (.tup xs) → H' a = some (.tup xs)
theorem KT.of {H H' : Hp} (h : Same H H') : KT H H' := fun a xs e => h a _ e
theorem KT.trans {H H1 H2 : Hp} (a : KT H H1) (b : KT H1 H2) : KT H H2 := fun c o h => b c o (a c o h)
mutual
theorem Tp.mono {H H' : Hp} (k : KT H H') : ∀ (d : PyData) (v : V), Tp H v d → Tp H' v d
  | .none, _, h => by cases h; exact .non
  | .bool b, _, h => by cases h; exact .bl b
  | .int i, _, h => by cases h; exact .int i
  | .str x, _, h => by cases h; exact .str x
  | .list _, _, h => by cases h
  | .tuple ds, _, h => by
    cases h with
    | tup h1 h2 => exact .tup (k _ _ h1) (TpAll.mono k ds _ h2)
  | .dict _, _, h => by cases h
theorem TpAll.mono {H H' : Hp} (k : KT H H') : ∀ (ds : List PyData) (vs : List V), TpAll H vs ds → TpAll H' vs ds
  | [], _, h => by cases h; exact .nil
  | d :: ds, _, h => by
    cases h with
    | cons h1 h2 => exact .cons (Tp.mono k d _ h1) (TpAll.mono k ds _ h2)
end
mutual
theorem Tp.dp {K : PySem.W.Frag} {H : Hp} : ∀ (d : PyData) (v : V), Tp H v d → Dp K H v d
  | .none, _, h => by cases h; exact .non
  | .bool b, _, h => by cases h; exact .bl b
  | .int i, _, h => by cases h; exact .int i
  | .str x, _, h => by cases h; exact .str x
  | .list _, _, h => by cases h
  | .tuple ds, _, h => by
    cases h with
    | tup h1 h2 => exact .tup (.inl (.inl h1)) (TpAll.dp ds _ h2)
  | .dict _, _, h => by cases h
theorem TpAll.dp {K : PySem.W.Frag} {H : Hp} : ∀ (ds : List PyData) (vs : List V), TpAll H vs ds → DpAll K H vs ds
  | [], _, h => by cases h; exact .nil
  | d :: ds, _, h => by
    cases h with
    | cons h1 h2 => exact .cons (Tp.dp d _ h1) (TpAll.dp ds _ h2)
end
theorem ex_sqT {K : PySem.W.Frag} {H H' : Hp} {a : Addr} {xs : List V} (e : Same H H') (h : SqT K H a xs) : SqT K H' a xs := by
  rcases h with (h | ⟨o, h⟩) | h
  · exact .inl (.inl (e _ _ h))
  · exact .inl (.inr ⟨o, e _ _ h⟩)
  · exact .inr h
mutual
theorem Dp.mono {K : PySem.W.Frag} {H H' : Hp} (k : Same H H') : ∀ (d : PyData) (v : V), Dp K H v d → Dp K H' v d
  | .none, _, h => by cases h; exact .non
  | .bool b, _, h => by cases h; exact .bl b
  | .int i, _, h => by cases h; exact .int i
  | .str x, _, h => by cases h; exact .str x
  | .list ds, _, h => by
    cases h with
    | lst h1 h2 => exact .lst (k.seq h1) (DpAll.mono k ds _ h2)
  | .tuple ds, _, h => by
    cases h with
    | tup h1 h2 => exact .tup (ex_sqT k h1) (DpAll.mono k ds _ h2)
  | .dict _, _, h => by cases h
theorem DpAll.mono {K : PySem.W.Frag} {H H' : Hp} (k : Same H H') : ∀ (ds : List PyData) (vs : List V), DpAll K H vs ds → DpAll K H' vs ds
  | [], _, h => by cases h; exact .nil
  | d :: ds, _, h => by
    cases h with
    | cons h1 h2 => exact .cons (Dp.mono k d _ h1) (DpAll.mono k ds _ h2)
end
theorem DpAll.len {K : PySem.W.Frag} {H : Hp} : ∀ {vs : List V} {ds : List PyData}, DpAll K H vs ds → vs.length = ds.length
  | [], _, h => by cases h; rfl
  | _ :: _, _, h => by
    cases h with
    | cons _ h2 => simp only [List.length_cons, DpAll.len h2]
theorem TpAll.len {H : Hp} : ∀ {vs : List V} {ds : List PyData}, TpAll H vs ds → vs.length = ds.length
  | [], _, h => by cases h; rfl
  | _ :: _, _, h => by
    cases h with
    | cons _ h2 => simp only [List.length_cons, TpAll.len h2]
theorem DpAll.get {K : PySem.W.Frag} {H : Hp} : ∀ {vs : List V} {ds : List PyData} {i : Nat} {v : V}, DpAll K H vs ds → vs[i]? = some v → ∃ d, ds[i]? = some d ∧ Dp K H v d
  | [], _, _, _, h, e => by simp at e
  | _ :: _, _, 0, _, h, e => by
    cases h with
    | cons h1 _ =>
      simp at e
      subst e
      exact ⟨_, rfl, h1⟩
  | _ :: _, _, i + 1, _, h, e => by
    cases h with
    | cons _ h2 =>
      obtain ⟨d, h3, h4⟩ := DpAll.get (i := i) h2 (by simpa using e)
      exact ⟨d, by simpa using h3, h4⟩
theorem DpAll.got {K : PySem.W.Frag} {H : Hp} {vs : List V} {ds : List PyData} {i : Nat} {d : PyData} (h : DpAll K H vs ds) (e : ds[i]? = some d) : ∃ v, vs[i]? = some v ∧ Dp K H v d := by
  have hi : i < vs.length := by
    rw [DpAll.len h]
    exact (List.getElem?_eq_some_iff.mp e).1
  obtain ⟨d', h1, h2⟩ := DpAll.get h (List.getElem?_eq_getElem hi)
  rw [e] at h1
  cases h1
  exact ⟨_, List.getElem?_eq_getElem hi, h2⟩
theorem TpAll.ints {H : Hp} : ∀ ns : List Int, TpAll H (ns.map V.int) (ns.map PyData.int)
  | [] => .nil
  | n :: ns => .cons (.int n) (TpAll.ints ns)
theorem DpAll.ints {K : PySem.W.Frag} {H : Hp} (ns : List Int) : DpAll K H (ns.map V.int) (ns.map PyData.int) := TpAll.dp _ _ (TpAll.ints ns)
theorem TpAll.get {H : Hp} : ∀ {vs : List V} {ds : List PyData} {v : V}, TpAll H vs ds → v ∈ vs → ∃ d, d ∈ ds ∧ Tp H v d
  | [], _, _, _, e => by cases e
  | x :: _, _, v, h, e => by
    cases h with
    | cons h1 h2 =>
      rcases List.mem_cons.mp e with e | e
      · subst e
        exact ⟨_, List.mem_cons_self, h1⟩
      · obtain ⟨d, h3, h4⟩ := TpAll.get h2 e
        exact ⟨d, List.mem_cons_of_mem _ h3, h4⟩
theorem TpAll.take {H : Hp} : ∀ {vs : List V} {ds : List PyData} (n : Nat), TpAll H vs ds → TpAll H (vs.take n) (ds.take n)
  | _, _, 0, _ => .nil
  | _, _, _ + 1, .nil => .nil
  | _, _, n + 1, .cons h1 h2 => .cons h1 (TpAll.take n h2)
/-! ### what == takes -/
theorem lay_ints : ∀ ns : List Int, PyData.canLayAll0 (ns.map PyData.int) = true
  | [] => rfl
  | n :: ns => by
    rw [List.map_cons, PyData.canLayAll0, lay_ints ns]
    rfl
theorem dep_ints : ∀ ns : List Int, PyData.depthAll (ns.map PyData.int) = 0
  | [] => rfl
  | n :: ns => by
    rw [List.map_cons, PyData.depthAll, dep_ints ns]
    rfl
theorem shaped_of {d : PyData} (h : d.canLay0 = true) (k : d.depth ≤ 64) : SeqAt.shaped d = true := by
  unfold SeqAt.shaped
  rw [h, decide_eq_true k]
  rfl
theorem shaped_ints (ns : List Int) : SeqAt.shaped (.list (ns.map PyData.int)) = true :=
  shaped_of (by rw [PyData.canLay0]; exact lay_ints ns) (by rw [PyData.depth, dep_ints]; omega)
theorem shaped_nil : SeqAt.shaped (.list []) = true := shaped_ints []
theorem eqvAll_nil : ∀ ds : List PyData, PyData.eqvAll ds [] = ds.isEmpty
  | [] => rfl
  | _ :: _ => rfl
theorem eqv_nil (ds : List PyData) : PyData.eqv (.list ds) (.list []) = ds.isEmpty := by
  rw [PyData.eqv, eqvAll_nil]
/-! ### a module's own dict of texts to ints -/
def keyD (e : DictEntry) : Option Str := match e.key with
  | .str x _ => some x
  | _ => none
def valD (e : DictEntry) : Option Int := match e.val with
  | .int i _ => some i
  | _ => none
def lookM : List (Str × Int) → Str → Option Int
  | [], _ => none
  | (y, i) :: r, x => if y = x then some i else lookM r x
structure KDm (K : PySem.W.Frag) (w : World) (a : Addr) (m : List (Str × Int)) : Prop where
  ex : ∃ es n, K.lookup a = some ⟨.type "dict", none, .dict es n, #[]⟩ ∧ PySem.W.KeysLit w.params es.toList ∧ es.toList.map (fun e => (keyD e, valD e)) = m.map fun p => (some p.1, some p.2)
  low : (a == sysModules) = false
theorem find_dm : ∀ {es : List DictEntry} {m : List (Str × Int)}, es.map (fun e => (keyD e, valD e)) = m.map (fun p => (some p.1, some p.2)) → ∀ x : Str,
    (lookM m x = none → (es.find? fun e => Value.isStrOf x e.key) = none) ∧ ∀ i, lookM m x = some i → ∃ e t, (es.find? fun e => Value.isStrOf x e.key) = some e ∧ e.val = .int i t
  | [], [], _, x => ⟨fun _ => rfl, fun i h => by cases h⟩
  | [], _ :: _, h, _ => by simp at h
  | _ :: _, [], h, _ => by simp at h
  | e :: es, (y, j) :: m, h, x => by
    rw [List.map_cons, List.map_cons] at h
    injection h with h1 h2
    have hk : keyD e = some y := congrArg Prod.fst h1
    have hv : valD e = some j := congrArg Prod.snd h1
    obtain ⟨t, ek⟩ : ∃ t, e.key = .str y t := by
      unfold keyD at hk
      split at hk
      · rename_i z t q
        cases hk
        exact ⟨t, q⟩
      · cases hk
    obtain ⟨t', ev⟩ : ∃ t, e.val = .int j t := by
      unfold valD at hv
      split at hv
      · rename_i z t q
        cases hv
        exact ⟨t, q⟩
      · cases hv
    have hb : Value.isStrOf x e.key = (y == x) := by rw [ek]; rfl
    have ih := find_dm h2 x
    by_cases hx : y = x
    · have hl : lookM ((y, j) :: m) x = some j := by unfold lookM; rw [if_pos hx]
      have hf : (List.find? (fun e => Value.isStrOf x e.key) (e :: es)) = some e := List.find?_cons_of_pos (by rw [hb]; exact beq_iff_eq.mpr hx)
      rw [hl, hf]
      exact ⟨fun q => (nomatch q), fun i q => ⟨e, t', rfl, by rw [← Option.some.inj q]; exact ev⟩⟩
    · have hl : lookM ((y, j) :: m) x = lookM m x := by conv => lhs; unfold lookM; rw [if_neg hx]
      have hf : (List.find? (fun e => Value.isStrOf x e.key) (e :: es)) = List.find? (fun e => Value.isStrOf x e.key) es := List.find?_cons_of_neg (by rw [hb]; exact fun q => hx (beq_iff_eq.mp q))
      rw [hl, hf]
      exact ih
def rInDm (K : PySem.W.Frag) (w : World) (neg : Bool) : R2 := fun x y H Q => ∃ p z m, x = .str z ∧ y = .ref p ∧ KDm K w p m ∧ Q (.bl (if neg then !(lookM m z).isSome else (lookM m z).isSome)) H
def rIxDm (K : PySem.W.Frag) (w : World) : R2 := fun x y H Q => ∃ p z m i, x = .ref p ∧ y = .str z ∧ KDm K w p m ∧ lookM m z = some i ∧ Q (.int i) H
section
variable {X : Cx}
theorem dm_some {K : PySem.W.Frag} {es : Array DictEntry} {m : List (Str × Int)} (h : es.toList.map (fun e => (keyD e, valD e)) = m.map fun p => (some p.1, some p.2)) (z : Str) : (findBy Value.isStrOf es z).isSome = (lookM m z).isSome := by
  have q := find_dm h z
  unfold findBy
  rw [← Array.find?_toList]
  cases e : lookM m z with
  | none => rw [q.1 e]; rfl
  | some i =>
    obtain ⟨d, t, e1, e2⟩ := q.2 i e
    rw [e1]
    rfl
theorem op_notInDm : OpR X (compareOp .NotIn) (rInDm X.K X.w true) := by
  intro pins s σ H x y v u Q I rx ry h
  obtain ⟨p, z, m, rfl, rfl, D, q⟩ := h
  obtain ⟨es, n, hl, hk, hm⟩ := D.ex
  obtain rfl : u = Value.ref p := ry
  obtain ⟨t, rfl⟩ := rx
  refine wpAny_notIn_of (strKind_is X.prog X.w z t) D.low (PySem.W.mapOf_K (prog := X.prog) (w := X.w) I.kIn hl hk) ⟨.bl _, H, I.tok _, rfl, ?_⟩
  rw [dm_some (K := X.K) hm z]
  exact q
theorem ix_dm : IxR X (rIxDm X.K X.w) := by
  intro value slice pins s σ H x y v u Q I rx ry h hs
  obtain ⟨p, z, m, i, rfl, rfl, D, e, q⟩ := h
  obtain ⟨es, n, hl, hk, hm⟩ := D.ex
  obtain rfl : v = Value.ref p := rx
  obtain ⟨t, rfl⟩ := ry
  obtain ⟨d, t', e1, e2⟩ := (find_dm hm z).2 i e
  have M := PySem.W.mapOf_K (prog := X.prog) (w := X.w) I.kIn hl hk
  have hf : findBy Value.isStrOf es z = some (.int i t') := by
    unfold findBy
    rw [← Array.find?_toList, e1]
    show some d.val = _
    rw [e2]
  exact tail_any M.typeIs slot_dict_getitem.lookup (wpAny_getItem_of (strKind_is X.prog X.w z t) M hf ⟨.int i, H, I.tok _, ⟨_, rfl⟩, q⟩) hs
theorem OpR.or' {f : Value → Value → Sem Value} {r r' : R2} (h : OpR X f r) (h' : OpR X f r') : OpR X f (fun x y H Q => r x y H Q ∨ r' x y H Q) := by
  intro pins s σ H x y v u Q I rx ry q
  rcases q with q | q
  · exact h pins s σ H x y v u Q I rx ry q
  · exact h' pins s σ H x y v u Q I rx ry q
end
/-! ### what a draw asks for: the script, the state -/
structure En (K : PySem.W.Frag) (a st : Addr) (ns : List Int) (n : Nat) (H : Hp) : Prop where
  sq : ∀ H', Gx st H H' → SqL K H' a (ns.map V.int)
  len : ns.length ≤ 63
  zs : ∃ zs, H st = some (.lst zs) ∧ zs.length ≤ n
  small : n ≤ 100000
section
variable {K : PySem.W.Frag} {a st : Addr} {ns : List Int} {n m : Nat} {H H' : Hp}
theorem En.next (E : En K a st ns n H) (g : Gx st H H') (z : ∃ zs, H' st = some (.lst zs) ∧ zs.length ≤ m) (hm : m ≤ 100000) : En K a st ns m H' :=
  ⟨fun H2 g2 => E.sq H2 (g.trans g2), E.len, z, hm⟩
theorem En.st_ne (E : En K a st ns n H) {p : Addr} (h : H p = none) : p ≠ st := fun e => by
  obtain ⟨zs, q, _⟩ := E.zs
  rw [e, q] at h
  cases h
theorem En.lst (E : En K a st ns n H) : SqL K H a (ns.map V.int) := E.sq H (Gx.refl _ _)
end
end Sb
namespace Sb
open PySem PySem.Spec PyProof.Rows L2
/-! ### what kind a datum is -/
def tyD : PyData → String
  | .none => "NoneType"
  | .bool _ => "bool"
  | .int _ => "int"
  | .str _ => "str"
  | .list _ => "list"
  | .tuple _ => "tuple"
  | .dict _ => "dict"
def isInt : PyData → Bool
  | .int _ => true
  | .bool _ => true
  | _ => false
def isBool : PyData → Bool
  | .bool _ => true
  | _ => false
def isStr : PyData → Bool
  | .str _ => true
  | _ => false
def isTup : PyData → Bool
  | .tuple _ => true
  | _ => false
theorem kit_int (K : PySem.W.Frag) : ∀ d, PySem.W.kitOne K (.type (tyD d)) (.type "int") = some (isInt d)
  | .none => kit_ty (by show kitB "NoneType" "int" = some false; decide +kernel)
  | .bool _ => kit_ty (by show kitB "bool" "int" = some true; decide +kernel)
  | .int _ => kit_ty (by show kitB "int" "int" = some true; decide +kernel)
  | .str _ => kit_ty (by show kitB "str" "int" = some false; decide +kernel)
  | .list _ => kit_ty (by show kitB "list" "int" = some false; decide +kernel)
  | .tuple _ => kit_ty (by show kitB "tuple" "int" = some false; decide +kernel)
  | .dict _ => kit_ty (by show kitB "dict" "int" = some false; decide +kernel)
theorem kit_bool (K : PySem.W.Frag) : ∀ d, PySem.W.kitOne K (.type (tyD d)) (.type "bool") = some (isBool d)
  | .none => kit_ty (by show kitB "NoneType" "bool" = some false; decide +kernel)
  | .bool _ => kit_ty (by show kitB "bool" "bool" = some true; decide +kernel)
  | .int _ => kit_ty (by show kitB "int" "bool" = some false; decide +kernel)
  | .str _ => kit_ty (by show kitB "str" "bool" = some false; decide +kernel)
  | .list _ => kit_ty (by show kitB "list" "bool" = some false; decide +kernel)
  | .tuple _ => kit_ty (by show kitB "tuple" "bool" = some false; decide +kernel)
  | .dict _ => kit_ty (by show kitB "dict" "bool" = some false; decide +kernel)
theorem kit_str (K : PySem.W.Frag) : ∀ d, PySem.W.kitOne K (.type (tyD d)) (.type "str") = some (isStr d)
  | .none => kit_ty (by show kitB "NoneType" "str" = some false; decide +kernel)
  | .bool _ => kit_ty (by show kitB "bool" "str" = some false; decide +kernel)
  | .int _ => kit_ty (by show kitB "int" "str" = some false; decide +kernel)
  | .str _ => kit_ty (by show kitB "str" "str" = some true; decide +kernel)
  | .list _ => kit_ty (by show kitB "list" "str" = some false; decide +kernel)
  | .tuple _ => kit_ty (by show kitB "tuple" "str" = some false; decide +kernel)
  | .dict _ => kit_ty (by show kitB "dict" "str" = some false; decide +kernel)
theorem kit_tup (K : PySem.W.Frag) : ∀ d, PySem.W.kitOne K (.type (tyD d)) (.type "tuple") = some (isTup d)
  | .none => kit_ty (by show kitB "NoneType" "tuple" = some false; decide +kernel)
  | .bool _ => kit_ty (by show kitB "bool" "tuple" = some false; decide +kernel)
  | .int _ => kit_ty (by show kitB "int" "tuple" = some false; decide +kernel)
  | .str _ => kit_ty (by show kitB "str" "tuple" = some false; decide +kernel)
  | .list _ => kit_ty (by show kitB "list" "tuple" = some false; decide +kernel)
  | .tuple _ => kit_ty (by show kitB "tuple" "tuple" = some true; decide +kernel)
  | .dict _ => kit_ty (by show kitB "dict" "tuple" = some false; decide +kernel)
theorem sqL_ty {K : PySem.W.Frag} {H : Hp} {a : Addr} {xs : List V} (h : SqL K H a xs) : TyX K H (.ref a) (.type "list") := by
  rcases h with (h | ⟨o, h⟩) | ⟨o, its, n, h, c, _⟩
  · exact .base (.lst h)
  · exact .base (.frz h)
  · exact .kList h c
theorem sqT_ty {K : PySem.W.Frag} {H : Hp} {a : Addr} {xs : List V} (h : SqT K H a xs) : TyX K H (.ref a) (.type "tuple") := by
  rcases h with (h | ⟨o, h⟩) | ⟨o, its, n, h, c, _⟩
  · exact .base (.tup h)
  · exact .fTuple h
  · exact .kTuple h c
theorem dp_ty {K : PySem.W.Frag} {H : Hp} {v : V} {d : PyData} (h : Dp K H v d) : TyX K H v (.type (tyD d)) := by
  cases h with
  | non => exact .base .non
  | bl b => exact .base (.bl b)
  | int i => exact .base (.int i)
  | str x => exact .base (.str x)
  | lst hs _ => exact sqL_ty hs
  | tup hs _ => exact sqT_ty hs
/-! ### texts of some size within a datum -/
mutual
def smD : PyData → Bool
  | .str x => decide (x.length ≤ 100000)
  | .list xs => smDs xs
  | .tuple xs => smDs xs
  | .none => true
  | .bool _ => true
  | .int _ => true
  | .dict _ => true
def smDs : List PyData → Bool
  | [] => true
  | x :: xs => smD x && smDs xs
end
theorem smDs_get : ∀ {ds : List PyData} {i : Nat} {d : PyData}, smDs ds = true → ds[i]? = some d → smD d = true
  | [], _, _, _, e => by simp at e
  | x :: xs, 0, _, h, e => by
    rw [smDs, Bool.and_eq_true] at h
    simp at e
    rw [← e]
    exact h.1
  | x :: xs, i + 1, _, h, e => by
    rw [smDs, Bool.and_eq_true] at h
    exact smDs_get h.2 (by simpa using e)
/-! ### the program's answers -/
def numD : PyData → Int → Int → Bool
  | .int i, lo, hi => decide (lo ≤ i) && decide (i ≤ hi)
  | _, _, _ => false
def tupD : PyData → Int → Int → Bool
  | .tuple ds, lo, hi => decide (lo ≤ (ds.length : Int)) && decide ((ds.length : Int) ≤ hi)
  | _, _, _ => false
def letterOk (c : Nat) : Bool := decide (97 ≤ c) && decide (c ≤ 122)
def textD : PyData → Int → Bool
  | .str z, n => decide ((z.length : Int) ≤ n) && z.cps.toList.all letterOk
  | _, _ => false
def ltD : PyData → PyData → Bool
  | .int i, .int j => decide (i < j)
  | .str x, .str y => decide (x.cps.toList < y.cps.toList)
  | .tuple [.str x, .int i, .int j], .tuple [.str y, .int k, .int l] => decide (x.cps.toList < y.cps.toList) || (decide (x = y) && (decide (i < k) || (decide (i = k) && decide (j < l))))
  | _, _ => false
def ascD : List PyData → Bool
  | x :: y :: r => ltD x y && ascD (y :: r)
  | _ => true
def seqD : PyData → List PyData
  | .tuple ds => ds
  | _ => []
def thingD (d : PyData) : Bool := tupD d 1 4 && (seqD d).all (fun x => textD x 4) && ascD (seqD d)
def prodD : List PyData → Nat
  | [] => 1
  | d :: r => (seqD d).length * prodD r
def thingsD (d : PyData) : Bool := tupD d 1 5 && (seqD d).all thingD && decide (prodD (seqD d) ≤ 256)
def readingD : PyData → Int → Int → Bool
  | .tuple [.str w, d], m, s => if w = "thing" then numD d 0 (m - 1) else decide (w = ("step" : Str)) && numD d 0 (s - 1)
  | _, _, _ => false
def mREADINGS' : List (Str × Int) := [("join", 2), ("sort", 1), ("turn", 1), ("first", 1), ("rest", 1), ("less", 2), ("same", 2), ("pick", 3)]
def stepD : PyData → Int → Int → Bool
  | .tuple [.str o, rs], m, s => match lookM mREADINGS' o with
    | some k => tupD rs k k && (seqD rs).all (fun x => readingD x m s)
    | none => false
  | _, _, _ => false
def stepsAllD : List PyData → Int → Nat → Bool
  | [], _, _ => true
  | d :: r, m, s => stepD d m (s : Int) && stepsAllD r m (s + 1)
def stepsD (d : PyData) (m : Int) : Bool := tupD d 1 8 && stepsAllD (seqD d) m 0
def madeD (d : PyData) (s : Int) : Bool := tupD d 1 3 && (seqD d).all (fun x => numD x 0 (s - 1)) && ascD (seqD d)
def recipeD : PyData → Bool
  | .tuple [t, s, m] => thingsD t && (stepsD s ((seqD t).length : Int) && madeD m ((seqD s).length : Int))
  | _ => false
end Sb
namespace Sb
open PySem PySem.Spec PyProof.Rows L2
/-! ### >= of data of one kind: ints, texts, acts -/
def cmpOk : PyData → PyData → Prop
  | .int _, .int _ => True
  | .str _, .str _ => True
  | .tuple [.str _, .int _, .int _], .tuple [.str _, .int _, .int _] => True
  | _, _ => False
theorem al_int (i j : Int) : PySem.W.alike (.int i) (.int j) = true := rfl
theorem al_str (x y : Str) : PySem.W.alike (.str x) (.str y) = true := rfl
theorem ne_int {i j : Int} (h : i ≠ j) : PyData.eqv (.int i) (.int j) = false := by
  show (i == j) = false
  exact beq_false_of_ne h
theorem ne_strD {x y : Str} (h : x ≠ y) : PyData.eqv (.str x) (.str y) = false := by
  show (x == y) = false
  exact beq_false_of_ne h
theorem lt_last (i j : Int) : PySem.W.dataLt (.tuple [.int i]) (.tuple [.int j]) = decide (i < j) := by
  by_cases h : i = j
  · subst h
    rw [PySem.W.dataLt_tuple, PySem.W.dataLt_all_yes (al_int i i) (PySem.W.eqv_refl_alike (.int i) rfl), decide_eq_false (Int.lt_irrefl _)]
    decide +kernel
  · rw [PySem.W.dataLt_tuple, PySem.W.dataLt_all_no (al_int i j) (ne_int h), PySem.W.dataLt_int]
theorem lt_act (x y : Str) (i j k l : Int) : PySem.W.dataLt (.tuple [.str x, .int i, .int j]) (.tuple [.str y, .int k, .int l]) = ltD (.tuple [.str x, .int i, .int j]) (.tuple [.str y, .int k, .int l]) := by
  show _ = (decide (x.cps.toList < y.cps.toList) || (decide (x = y) && (decide (i < k) || (decide (i = k) && decide (j < l)))))
  rw [PySem.W.dataLt_tuple]
  by_cases h : x = y
  · subst h
    rw [PySem.W.dataLt_all_yes (al_str x x) (PySem.W.eqv_refl_alike (.str x) rfl), decide_eq_false (List.lt_irrefl _), decide_eq_true rfl, Bool.false_or, Bool.true_and]
    by_cases g : i = k
    · subst g
      rw [PySem.W.dataLt_all_yes (al_int i i) (PySem.W.eqv_refl_alike (.int i) rfl), ← PySem.W.dataLt_tuple, lt_last, decide_eq_false (Int.lt_irrefl _), decide_eq_true rfl, Bool.false_or, Bool.true_and]
    · rw [PySem.W.dataLt_all_no (al_int i k) (ne_int g), PySem.W.dataLt_int, decide_eq_false g, Bool.false_and, Bool.or_false]
  · rw [PySem.W.dataLt_all_no (al_str x y) (ne_strD h), PySem.W.dataLt_str, decide_eq_false h, Bool.false_and, Bool.or_false]
theorem cmp_data : ∀ {d e : PyData}, cmpOk d e → PySem.W.alike d e = true ∧ d ≠ .none ∧ d.depth ≤ 1 ∧ PySem.W.dataLt d e = ltD d e
  | .int i, .int j, _ => ⟨rfl, nofun, Nat.zero_le _, PySem.W.dataLt_int i j⟩
  | .str x, .str y, _ => ⟨rfl, nofun, Nat.zero_le _, PySem.W.dataLt_str x y⟩
  | .tuple [.str x, .int i, .int j], .tuple [.str y, .int k, .int l], _ => ⟨rfl, nofun, Nat.le_refl 1, lt_act x y i j k l⟩
/-! ### x in a tuple of data -/
theorem units65 {k : Nat} {A : Around} (r : Room k A) : A.units + 65 < cLine := by have := r.un; omega
theorem asc_of : ∀ {ds : List PyData}, (∀ (j : Nat) (x y : PyData), ds[j]? = some x → ds[j + 1]? = some y → ltD x y = true) → ascD ds = true
  | [], _ => rfl
  | [_], _ => rfl
  | x :: y :: r, h => by
    rw [ascD, h 0 x y rfl rfl, asc_of (ds := y :: r) fun j a b ea eb => h (j + 1) a b ea eb]
    rfl
theorem asc_at : ∀ {ds : List PyData} {j : Nat} {x y : PyData}, ascD ds = true → ds[j]? = some x → ds[j + 1]? = some y → ltD x y = true
  | [], _, _, _, _, e, _ => by simp at e
  | [_], 0, _, _, _, _, e => by simp at e
  | [_], j + 1, _, _, _, e, _ => by simp at e
  | a :: b :: r, 0, x, y, h, e1, e2 => by
    rw [ascD, Bool.and_eq_true] at h
    cases e1
    cases e2
    exact h.1
  | a :: b :: r, j + 1, x, y, h, e1, e2 => by
    rw [ascD, Bool.and_eq_true] at h
    exact asc_at (ds := b :: r) h.2 e1 e2
end Sb
/-! Sb, evaluation over data: I the part of the heap that nobody changes (all tuples, the lists that stay); what an expression evaluates to, as data. -/
namespace Sb
open PySem PySem.Spec PyProof.Rows L2
structure Im (I H : Hp) : Prop where
  sub : Same I H
  tup : ∀ b xs, H b = some (.tup xs) → I b = some (.tup xs)
structure Ext (I H I' H' : Hp) : Prop where
  im : Im I' H'
  ii : Same I I'
  hh : Same H H'
  old : ∀ b o, H b = some o → I' b = I b
theorem Ext.refl {I H : Hp} (m : Im I H) : Ext I H I H := ⟨m, Same.refl _, Same.refl _, fun _ _ _ => rfl⟩
theorem Ext.trans {I H I1 H1 I2 H2 : Hp} (a : Ext I H I1 H1) (b : Ext I1 H1 I2 H2) : Ext I H I2 H2 :=
  ⟨b.im, a.ii.trans b.ii, a.hh.trans b.hh, fun c o e => (b.old c o (a.hh c o e)).trans (a.old c o e)⟩
/-- a new object that stays -/
theorem Ext.lay {I H : Hp} {p : Addr} {o : HO} (m : Im I H) (hp : H p = none) : Ext I H (upd I p o) (upd H p o) := by
  have ip : I p = none := m.sub.free hp
  refine ⟨⟨fun b x e => ?_, fun b xs e => ?_⟩, same_new ip, same_new hp, fun b x e => ?_⟩
  · by_cases h : b = p
    · subst h
      rw [upd_same] at e ⊢
      exact e
    · rw [upd_ne h] at e ⊢
      exact m.sub _ _ e
  · by_cases h : b = p
    · subst h
      rw [upd_same] at e ⊢
      exact e
    · rw [upd_ne h] at e ⊢
      exact m.tup _ _ e
  · rw [upd_ne (ne_of_none e hp)]
/-- a new list that will change -/
theorem Ext.cell {I H : Hp} {p : Addr} {xs : List V} (m : Im I H) (hp : H p = none) : Ext I H I (upd H p (.lst xs)) := by
  refine ⟨⟨fun b x e => same_new hp _ _ (m.sub _ _ e), fun b ys e => ?_⟩, Same.refl _, same_new hp, fun _ _ _ => rfl⟩
  by_cases h : b = p
  · subst h
    rw [upd_same] at e
    cases e
  · rw [upd_ne h] at e
    exact m.tup _ _ e
/-- a cell is changed -/
theorem Im.put {I H : Hp} {p : Addr} {xs : List V} (m : Im I H) (ip : I p = none) : Im I (upd H p (.lst xs)) := by
  refine ⟨fun b x e => ?_, fun b ys e => ?_⟩
  · rw [upd_ne (ne_of_none e ip)]
    exact m.sub _ _ e
  · by_cases h : b = p
    · subst h
      rw [upd_same] at e
      cases e
    · rw [upd_ne h] at e
      exact m.tup _ _ e
mutual
theorem Tp.im {K : PySem.W.Frag} {I H : Hp} (m : Im I H) : ∀ (d : PyData) (v : V), Tp H v d → Dp K I v d
  | .none, _, h => by cases h; exact .non
  | .bool b, _, h => by cases h; exact .bl b
  | .int i, _, h => by cases h; exact .int i
  | .str x, _, h => by cases h; exact .str x
  | .list _, _, h => by cases h
  | .tuple ds, _, h => by
    cases h with
    | tup h1 h2 => exact .tup (.inl (.inl (m.tup _ _ h1))) (TpAll.im m ds _ h2)
  | .dict _, _, h => by cases h
theorem TpAll.im {K : PySem.W.Frag} {I H : Hp} (m : Im I H) : ∀ (ds : List PyData) (vs : List V), TpAll H vs ds → DpAll K I vs ds
  | [], _, h => by cases h; exact .nil
  | d :: ds, _, h => by
    cases h with
    | cons h1 h2 => exact .cons (Tp.im m d _ h1) (TpAll.im m ds _ h2)
end
/-! ### what an expression evaluates to -/
def EvD (K : PySem.W.Frag) (te : TE) (σ : L2.St) (I : Hp) (d : PyData) : Prop := ∀ I1 H1, Same I I1 → Im I1 H1 → ∀ Q : VK, (∀ v I2 H2, Ext I1 H1 I2 H2 → Dp K I2 v d → Q v H2) → te σ H1 Q
def EvDs (K : PySem.W.Frag) (ta : TA) (σ : L2.St) (I : Hp) (ds : List PyData) : Prop := ∀ I1 H1, Same I I1 → Im I1 H1 → ∀ Q : List V → Hp → Prop, (∀ vs I2 H2, Ext I1 H1 I2 H2 → DpAll K I2 vs ds → Q vs H2) → ta σ H1 Q
section
variable {K : PySem.W.Frag} {σ : L2.St} {I I0 H : Hp} {ta tb te : TE} {t u : TT} {a b d : PyData} {ds xs ys : List PyData} {r : R2}
theorem EvD.mono (h : EvD K te σ I0 d) (s : Same I0 I) : EvD K te σ I d := fun I1 H1 s1 m Q q => h I1 H1 (s.trans s1) m Q q
theorem EvDs.mono {ta : TA} (h : EvDs K ta σ I0 ds) (s : Same I0 I) : EvDs K ta σ I ds := fun I1 H1 s1 m Q q => h I1 H1 (s.trans s1) m Q q
theorem EvD.is {e : PyData} (h : EvD K te σ I d) (q : d = e) : EvD K te σ I e := by rw [← q]; exact h
/-- the part of a list between two places -/
def cutD (xs : List PyData) (lo hi : Option Int) : List PyData := (xs.drop (HT.sIx xs.length 0 lo)).take (HT.sIx xs.length xs.length hi - HT.sIx xs.length 0 lo)
theorem DpAll.drop {vs : List V} (n : Nat) (h : DpAll K H vs ds) : DpAll K H (vs.drop n) (ds.drop n) := by
  induction n generalizing vs ds with
  | zero => exact h
  | succ n ih =>
    cases h with
    | nil => exact .nil
    | cons h1 h2 => exact ih h2
theorem DpAll.take {vs : List V} (n : Nat) (h : DpAll K H vs ds) : DpAll K H (vs.take n) (ds.take n) := by
  induction n generalizing vs ds with
  | zero => exact .nil
  | succ n ih =>
    cases h with
    | nil => exact .nil
    | cons h1 h2 => exact .cons h1 (ih h2)
theorem DpAll.app {vs ws : List V} (h : DpAll K H vs xs) (g : DpAll K H ws ys) : DpAll K H (vs ++ ws) (xs ++ ys) := by
  induction vs generalizing xs with
  | nil =>
    cases h
    exact g
  | cons v vs ih =>
    cases h with
    | cons h1 h2 => exact .cons h1 (ih h2)
theorem DpAll.cut {vs : List V} (h : DpAll K H vs ds) (lo hi : Option Int) : DpAll K H (cutV vs lo hi) (cutD ds lo hi) := by
  unfold cutV cutD
  rw [DpAll.len h]
  exact DpAll.take _ (DpAll.drop _ h)
/-! operators -/
def repD (k : Nat) (xs : List PyData) : List PyData := (List.replicate k xs).flatten
theorem DpAll.rep {vs : List V} (h : DpAll K H vs ds) : ∀ k : Nat, DpAll K H (List.replicate k vs).flatten (repD k ds)
  | 0 => .nil
  | k + 1 => by
    unfold repD
    rw [List.replicate_succ, List.replicate_succ, List.flatten_cons, List.flatten_cons]
    exact DpAll.app h (DpAll.rep h k)
/-! built-ins -/
/-! bools -/
theorem bls_of : ∀ {bs : List Bool} {vs : List V}, DpAll K H vs (bs.map PyData.bool) → vs = bs.map V.bl
  | [], _, h => by cases h; rfl
  | b :: bs, _, h => by
    cases h with
    | cons h1 h2 =>
      cases h1
      rw [bls_of h2]
      rfl
theorem Ext.put {I' H H' : Hp} {p : Addr} {xs : List V} (e : Ext I H I' H') (hp : H p = none) (ip : I' p = none) : Ext I H I' (upd H' p (.lst xs)) :=
  ⟨e.im.put ip, e.ii, fun b o h => by rw [upd_ne (ne_of_none h hp)]; exact e.hh _ _ h, e.old⟩
/-- a cell that is not changed any more -/
theorem Im.freeze {p : Addr} {vs : List V} (m : Im I H) (hp : H p = some (.lst vs)) : Im (upd I p (.lst vs)) H := by
  refine ⟨fun b o e => ?_, fun b xs e => ?_⟩
  · by_cases h : b = p
    · subst h
      rw [upd_same] at e
      cases e
      exact hp
    · rw [upd_ne h] at e
      exact m.sub _ _ e
  · rw [upd_ne (ne_of e hp (by intro z; cases z))]
    exact m.tup _ _ e
/-! ### statements, with I and H at hand -/
end
end Sb
namespace Sb
open PySem PySem.Spec PyProof.Rows L2
section
variable {K : PySem.W.Frag} {σ : L2.St} {I I0 H : Hp} {ta tb te : TE} {t u : TT} {a b d : PyData} {ds xs ys : List PyData} {r : R2}
theorem En.ext {A st : Addr} {ns : List Int} {n : Nat} {I I' H' : Hp} (E : En K A st ns n H) (e : Ext I H I' H') : En K A st ns n H' :=
  E.next (.of e.hh) (by obtain ⟨zs, ez, hz⟩ := E.zs; exact ⟨zs, e.hh _ _ ez, hz⟩) E.small
theorem En.put {A st p : Addr} {ns : List Int} {n : Nat} {H0 : Hp} {ys : List V} (E0 : En K A st ns 0 H0) (g : Gx st H0 H) (E : En K A st ns n H) (hp : H0 p = none) : En K A st ns n (upd H p (.lst ys)) := by
  obtain ⟨zs, ez, hz⟩ := E.zs
  exact E0.next (g.mut hp) ⟨zs, by rw [upd_ne (E0.st_ne hp).symm]; exact ez, hz⟩ E.small
end
/-- Same, by the chain of what is known: each heap has one that it came of -/
local macro_rules | `(tactic| walk_at "sb_same") => `(tactic| first
  | exact Same.refl _
  | assumption
  | (refine Same.trans ?_ (by assumption); walk_at "sb_same"))
end Sb
namespace Sb
open PySem PySem.Spec PyProof.Rows L2
/-- set(a tuple of ints) -/
def rSetTupI (K : PySem.W.Frag) (w : World) : List V → Hp → VK → Prop := fun xs H Q => ∃ (p : Addr) (ns : List Int), xs = [.ref p] ∧ SqT K H p (ns.map V.int) ∧ ns.length ≤ 1000 ∧
  ∀ (a : Addr) (c : Nat), H a = none → c ≤ ns.length → Q (.ref a) (upd H a (SetO w a (fun j => decide (j ∈ ns)) c))
theorem cr_setTupI {X : Cx} (hc : X.calm = true) : CallR X (.type "set") (rSetTupI X.K X.w) := by
  intro pins s σ H xs us Q I r h
  obtain ⟨p, ns, rfl, hq, hl, q⟩ := h
  rw [Vals.ref1 r]
  obtain ⟨its, rv, pt, hz⟩ := I.tuple hq
  have hi : IntsAre its.toArray.toList ns := ints_of_vals rv
  refine call_set_tupI ns (I.ok.hd hc) (show s.heap.IsTuple p its.toArray from pt) hi (by unfold scanBound; omega) fun h' tk c R1 hcn k => ?_
  exact ⟨.ref s.heap.objs.size, upd H s.heap.objs.size (SetO X.w s.heap.objs.size (fun j => decide (j ∈ ns)) c), I.laid (t' := tk) k (Nat.le_refl _) (setO_new R1), rfl, q _ c (I.hok.fresh (Nat.le_refl _)) hcn⟩
end Sb
namespace Sb
open PySem PySem.Spec PyProof.Rows L2
/-! ### a tuple times a number: the tuple itself where it is empty or taken once -/
theorem mul_self (l : Addr) (items : Array Value) (n : Nat) (dd : Option Addr) (sl : Array (Option Value)) (x : Int) (u : Tok) (c0 : (decide (x < -(2 ^ 63)) || decide (x ≥ 2 ^ 63)) = false) (c1 : (items.isEmpty || x == 1) = true) :
    Meets (Builtin.«tuple.__mul__» ⟨[.ref l, .int x u], []⟩) (fun _ R s => s.heap.get? l = some { cls := .type "tuple", dict := dd, data := .seq items n, slots := sl } ∧ R (.ok (.ret (Value.ref l))) s) :=
  .of_wp fun prog w A R s h => by
    obtain ⟨hp, g, d, tk, os⟩ := s
    obtain ⟨hl, h⟩ := h
    have f1 := AutoSeq1.idx_int
    wp_walk using wpAny_loadPart' hl
    repeat (first
      | (refine wpAny_ite_false (decide_eq_false (by rw [c0]; exact Bool.false_ne_true)) ?_; wp_walk using wpAny_loadPart' hl)
      | (refine wpAny_ite_true (decide_eq_true c1) ?_; wp_walk using wpAny_loadPart' hl))
    exact ⟨_, rfl, h⟩
def rRepA (K : PySem.W.Frag) : R2 := fun x y H Q => ∃ l k xs, x = .ref l ∧ y = .int k ∧ SqT K H l xs ∧ 1 ≤ k ∧ k ≤ 1000 ∧ xs.length ≤ 1000 ∧ ((xs = [] ∨ k = 1) → Q (.ref l) H) ∧ (xs ≠ [] → k ≠ 1 → ∀ p, H p = none → Q (.ref p) (upd H p (.tup (List.replicate k.toNat xs).flatten)))
theorem op_repA {X : Cx} : OpR X (binaryOp .Mult) (rRepA X.K) := by
  intro pins s σ H x y v u Q I rx ry h
  obtain ⟨l, k, xs, e1, e2, hT, h1, h2, hz, q1, q2⟩ := h
  by_cases hs : xs = [] ∨ k = 1
  · have q := q1 hs
    subst e1 e2
    cases rx
    obtain ⟨t, rfl⟩ := ry
    obtain ⟨its, r, ⟨⟨cls, dd, data, sl⟩, ho, hc, n, hd⟩, hsz⟩ := I.tuple hT
    simp only at hc hd
    subst hc hd
    have c1 : (its.toArray.isEmpty || k == 1) = true := by
      rcases hs with e | e
      · subst e
        cases r
        rfl
      · rw [e, beq_self_eq_true, Bool.or_true]
    have c0 : (decide (k < -(2 ^ 63)) || decide (k ≥ 2 ^ 63)) = false := by
      rw [decide_eq_false (by omega), decide_eq_false (by omega)]
      rfl
    refine wpAny_binaryOp_repeat_ref (T := "tuple") (U := "int") (by decide) ⟨_, ho, rfl⟩ (fun s' => typeIs_int s' k t) noFill_tuple_mul F.fills_int_mul F.slot_int_rmul repeat_tuple F.slot_int_index.lookup
      (call_meets F.slot_int_rmul (typeIs_int s k t) F.entry_int_rmul (F.args_int_rmul_2 _ _) (int_rmul_tuple k t l its.toArray n dd sl) ⟨ho, rfl, ⟨_, ho, rfl⟩, ?_⟩)
    exact call_meets F.slot_tuple_mul ⟨_, ho, rfl⟩ F.entry_tuple_mul (F.args_tuple_mul_2 _ _) (mul_self l its.toArray n dd sl k t c0 c1) ⟨ho, ⟨.ref l, H, I, rfl, q⟩⟩
  · have hn : xs ≠ [] := fun e => hs (.inl e)
    have hk : k ≠ 1 := fun e => hs (.inr e)
    exact op_repT pins s σ H x y v u Q I rx ry ⟨l, k, xs, e1, e2, hT, hn, by omega, h2, hz, q2 hn hk⟩
end Sb
namespace Sb
open PySem PySem.Spec PyProof.Rows L2
/-! ### sorted(a list of data that are alike) -/
section
variable {X : Cx} {pins : List (Addr × Obj)} {σ : L2.St} {H : Hp} {s : Shared}
theorem each_rel : ∀ {xs : List V} {us : List Value} {ds : List PyData}, Vals xs us → xs.length = ds.length → PySem.W.EachIs (fun v (b : V × PyData) => RelV b.1 v) us (xs.zip ds)
  | _, _, [], .nil, _ => .nil
  | _, _, d :: ds, .cons r t, h => .cons r (each_rel t (by simpa using h))
theorem each_reads (I : Inv X pins σ H s) : ∀ {xs : List V} {us : List Value} {ds : List PyData}, Vals xs us → DpAll X.K H xs ds → PySem.W.EachIs (fun v (b : V × PyData) => ∃ as, Reads s.heap v b.2 as) us (xs.zip ds)
  | _, _, [], .nil, _ => .nil
  | _, _, d :: ds, .cons r t, h => by
    cases h with
    | cons h1 h2 => exact .cons (Dp.reads I _ _ _ h1 r) (each_reads I t h2)
theorem vals_each : ∀ {us : List Value} {zs : List (V × PyData)}, PySem.W.EachIs (fun v (b : V × PyData) => RelV b.1 v) us zs → Vals (zs.map Prod.fst) us
  | _, _, .nil => .nil
  | _, _, .cons r t => .cons r (vals_each t)
theorem snd_zip {xs : List V} {ds : List PyData} (h : xs.length = ds.length) : (xs.zip ds).map Prod.snd = ds := List.map_snd_zip (Nat.le_of_eq h.symm)
end
end Sb
/-! sorted of tuples, the empty one among them. -/
namespace Sb
open PySem PySem.Spec PyProof.Rows L2
section
variable {prog : Program} {w : World} {A : Around} {E : Value → Shared → Prop} {s : Shared}
theorem call_tuple_lt {E : Value → Shared → Prop} {Q : Value → Shared → Prop} {l b : Addr} {items items2 : Array Value} {e r : Nat → Bool} (hl : IsTup s.heap l items) (hb : IsTup s.heap b items2)
    (he : ∀ (j : Nat) (h1 : j < items.size) (h2 : j < items2.size), SeqAt.EqAt A.in1 s items[j] items2[j] (e j)) (hr : ∀ (j : Nat) (h1 : j < items.size) (h2 : j < items2.size), e j = false → SeqAt.RcLt A.in1 s items[j] items2[j] (r j))
    (h : Q (.bool (SeqAt.firstLt e r (decide (items.size < items2.size)) (List.range (min items.size items2.size)))) s) : wpAny (model prog w) A (call (.builtin "tuple.__lt__") [.ref l, .ref b]) Q E s := by
  obtain ⟨⟨cls, dd, data, sl⟩, ho, hc, n, hd⟩ := hl
  obtain ⟨⟨cls2, dd2, data2, sl2⟩, ho2, hc2, n2, hd2⟩ := hb
  dsimp only at hc hd hc2 hd2
  subst hc hd hc2 hd2
  exact call_meets F.slot_tuple_lt ⟨_, ho, rfl⟩ F.entry_tuple_lt (F.args_tuple_lt_2 _ _) (SeqAt.tuple_ltAt l b items items2 n n2 dd dd2 sl sl2 e r) ⟨ho, ho2, he, hr, h⟩
theorem oneLt_tup {xs ys : List PyData} {a b : Value} {as bs : List Addr} {Q : Bool → Shared → Prop} (ra : Reads s.heap a (.tuple xs) as) (rb : Reads s.heap b (.tuple ys) bs) (hal : PySem.W.alikeAll xs ys = true)
    (hu : A.units + min (PyData.tuple xs).depth (PyData.tuple ys).depth < cLine) (q : Q (PySem.W.dataLt (.tuple xs) (.tuple ys)) s) : wpAny (model prog w) A (oneLt' true a b) Q E s := by
  cases ra with
  | tuple h1 h2 h3 h4 =>
    rename_i l o vs n
    cases rb with
    | tuple k1 k2 k3 k4 =>
      rename_i l' o' vs' n'
      rw [PyData.depth, PyData.depth] at hu
      have n1 : xs.length = vs.size := by have := SeqAt.ReadsAll.length xs vs.toList as h4; simpa using this.symm
      have n2 : ys.length = vs'.size := by have := SeqAt.ReadsAll.length ys vs'.toList bs k4; simpa using this.symm
      rw [oneLt'_eq]
      simp only [if_true]
      refine wpAny_bind (wpAny_cRoomFor (SeqAt.room_here hu) (wpAny_bind (wpAny_callSpecialIfBound?_slot ⟨o, h1, h2⟩ F.slot_tuple_lt (call_tuple_lt (e := SeqAt.pairEq xs ys) (r := fun j => PySem.W.dataLt (xs.getD j PyData.none) (ys.getD j PyData.none)) ⟨o, h1, h2, n, h3⟩ ⟨o', k1, k2, n', k3⟩ (fun j j1 j2 => ?_) (fun j j1 j2 hj => ?_) ?_))))
      · have := PySem.W.eqAt_alikeAll xs ys A.in1 s vs.toList vs'.toList as bs h4 k4 hal (SeqAt.room_in hu) j (by simpa using j1) (by simpa using j2)
        simpa using this
      · have := PySem.W.rcLt_alikeAll xs ys A.in1 s vs.toList vs'.toList as bs h4 k4 hal (SeqAt.room_in hu) j (by simpa using j1) (by simpa using j2) hj
        simpa using this
      · rw [PySem.W.dataLt_tuple, ← PySem.W.firstLt_toks xs ys hal, n1, n2] at q
        exact wpAny_truthy_bool q
theorem len_each {α β : Type} {R : α → β → Prop} : ∀ {us : List α} {zs : List β}, PySem.W.EachIs R us zs → us.length = zs.length
  | _, _, .nil => rfl
  | _, _, .cons _ h => by rw [List.length_cons, List.length_cons, len_each h]
def isT : PyData → Bool
  | .tuple _ => true
  | _ => false
def isT1 : PyData → Bool
  | .tuple (_ :: _) => true
  | _ => false
theorem first_tup {v : Value} {d : PyData} {as : List Addr} (r : Reads s.heap v d as) (ht : isT d = true) {Q : Option Value → Shared → Prop} (h : ∀ o : Option Value, o.isSome = isT1 d → Q o s) : wpAny (model prog w) A (firstOfTuple' v) Q E s := by
  cases r with
  | tuple h1 h2 h3 h4 =>
    rename_i l o vs n xs
    have n1 := SeqAt.ReadsAll.length xs vs.toList as h4
    rw [PySem.W.kas_first_eq]
    refine wpAny_bind (PySem.W.Looks.here (PySem.W.looks_reads (Reads.tuple h1 h2 h3 h4)) ?_)
    have hn : ¬ ((PySem.W.dataType (.tuple xs) != Value.type "tuple") = true) := by
      simp [PySem.W.dataType]
    rw [if_neg hn]
    refine wpAny_bind (wpAny_listItems h1 h3 (wpAny_pure (h _ ?_)))
    cases xs with
    | nil =>
      have : vs.size = 0 := by simpa using n1
      rw [Array.getElem?_eq_none (by omega)]
      rfl
    | cons x xs =>
      have : vs.size = xs.length + 1 := by simpa using n1
      rw [Array.getElem?_eq_getElem (by omega)]
      rfl
  | _ => cases ht
theorem firsts_tups {vs : List Value} {ds : List PyData} (e : PySem.W.EachIs (fun v d => ∃ as, Reads s.heap v d as) vs ds) : (∀ d ∈ ds, isT d = true) → ∀ {Q : List (Option Value) → Shared → Prop}, (∀ fs : List (Option Value), fs.map (fun o => o.isSome) = ds.map isT1 → Q fs s) → wpAny (model prog w) A (List.mapM firstOfTuple' vs) Q E s := by
  induction e with
  | nil =>
    intro _ Q h
    rw [List.mapM_nil]
    exact wpAny_pure (h [] rfl)
  | cons r e ih =>
    intro ht Q h
    rw [List.mapM_cons]
    obtain ⟨as, r⟩ := r
    refine wpAny_bind (first_tup r (ht _ List.mem_cons_self) fun o ho => wpAny_bind (ih (fun d hd => ht d (List.mem_cons_of_mem _ hd)) fun fs hf => wpAny_pure (h (o :: fs) ?_)))
    rw [List.map_cons, List.map_cons, ho, hf]
def tupKind (ds : List PyData) : SortKind := if (ds.map isT1).head? = some true then general' else oneType'
theorem kind_tups_any {vs : List Value} {ds : List PyData} (e : PySem.W.EachIs (fun v d => ∃ as, Reads s.heap v d as) vs ds) (ht : ∀ d ∈ ds, isT d = true) (hne : (ds.map isT1).all id = false) {Q : SortKind → Shared → Prop} (q : Q (tupKind ds) s) : wpAny (model prog w) A (keyKind' vs.toArray) Q E s := by
  rw [keyKind'_eq, List.mapM_toArray, map_eq_pure_bind]
  refine wpAny_bind (wpAny_bind (firsts_tups e ht fun fs hf => wpAny_pure ?_))
  have hall : (fs.toArray.all fun x => x.isSome) = false := by
    rw [List.all_toArray]
    have : (fs.map fun o => o.isSome).all id = false := by rw [hf]; exact hne
    rw [List.all_map] at this
    exact this
  rw [hall]
  simp only [Bool.false_eq_true, if_false]
  have hfirst : (fs.toArray[0]?.bind id).isSome = ((ds.map isT1).head? == some true) := by
    rw [← hf]
    cases fs with
    | nil => rfl
    | cons o fs => cases o <;> rfl
  rw [hfirst]
  unfold tupKind at q
  by_cases h1 : (ds.map isT1).head? = some true
  · rw [if_pos h1] at q
    rw [if_pos (by rw [h1]; rfl)]
    exact wpAny_pure q
  · rw [if_neg h1] at q
    rw [if_neg (by
      intro z
      exact h1 (by simpa using z))]
    rw [oneTypeOnly'_eq, List.mapM_toArray, map_eq_pure_bind]
    refine wpAny_bind (wpAny_bind (wpAny_bind (PySem.W.kas_mapM (r := Value.type "tuple") vs (fun v hv Q' hq => ?_) (wpAny_pure ?_))))
    · obtain ⟨d, hd, as, r⟩ := PySem.W.EachIs.left e v hv
      have hT : PySem.W.dataType d = Value.type "tuple" := by
        have := ht d hd
        cases d with
        | tuple xs => rfl
        | _ => cases this
      have hL := PySem.W.looks_reads (M := model prog w) r
      rw [hT] at hL
      exact PySem.W.Looks.here hL hq
    · cases vs with
      | nil =>
        have := len_each e
        cases ds with
        | nil => cases hne
        | cons d ds => cases this
      | cons v vs =>
        have hz : ((List.map (fun _ => Value.type "tuple") (v :: vs)).toArray.all fun x => x == Value.type "tuple") = true := by
          rw [List.all_toArray, List.all_map]
          simp
        show wpAny (model prog w) A (pure (if ((List.map (fun _ => Value.type "tuple") (v :: vs)).toArray.all fun x => x == Value.type "tuple") = true then some (Value.type "tuple") else none)) _ E s
        rw [hz]
        exact wpAny_pure (wpAny_pure q)
def Sortable2 (ds : List PyData) : Prop := PySem.W.Sortable ds ∨ ∀ d ∈ ds, isT d = true
theorem sorts2 {vs : List Value} {ds : List PyData} (e : PySem.W.EachIs (fun v d => ∃ as, Reads s.heap v d as) vs ds) (hal : PySem.W.AllAlike ds) (hk : Sortable2 ds) (hu : ∀ d, d ∈ ds → A.units + d.depth < cLine) : PySem.W.SortsAt prog w A s (PySem.W.dataKind s.heap ds) vs := by
  rcases hk with hk | ht
  · exact PySem.W.SortsAt.data e hal hk hu
  cases hne : (ds.map isT1).all id with
  | true =>
    refine PySem.W.SortsAt.data e hal (.inl fun d hd => ?_) hu
    rw [List.all_map, List.all_eq_true] at hne
    have h1 := hne d hd
    cases d with
    | tuple xs =>
      cases xs with
      | nil => cases h1
      | cons x r => exact ⟨x, r, rfl⟩
    | _ => cases h1
  | false =>
    refine ⟨fun v hv => ?_, tupKind ds, fun E x y a b Q ha hb hq => ?_, fun h2 E Q hq => kind_tups_any e ht hne hq⟩
    · obtain ⟨d, hd, as, r⟩ := PySem.W.EachIs.left e v hv
      exact ⟨_, PySem.W.dataKind_some hal hd r⟩
    · obtain ⟨d, as, hd, ra, rfl⟩ := PySem.W.dataKind_inv ha
      obtain ⟨d', as', hd', rb, rfl⟩ := PySem.W.dataKind_inv hb
      have hdd := hal d hd d' hd'
      have hr : A.units + min d.depth d'.depth < cLine := Nat.lt_of_le_of_lt (Nat.add_le_add_left (Nat.min_le_left _ _) _) (hu d hd)
      unfold tupKind
      split
      · have ek : keyLt' general' x y = oneLt' false x y := rfl
        rw [ek]
        exact PySem.W.oneLt_alike (fun z => nomatch z) ra rb hdd (fun z => by subst z; have := ht _ hd; cases this) hr hq
      · rw [keyLt'_oneType]
        have t1 := ht d hd
        have t2 := ht d' hd'
        cases d with
        | tuple xs =>
          cases d' with
          | tuple ys =>
            rw [PySem.W.alike] at hdd
            exact oneLt_tup ra rb hdd hr hq
          | _ => cases t2
        | _ => cases t1
end
end Sb
/-! P0: values of slots as data, the frame's world, what expressions, tests, arguments, statements evaluate to (functions of slots and of the count of draws). -/
namespace Sb
open PySem PySem.Spec PyProof.Rows L2
/-- what a slot holds, or an expression gives: data that stay; a list of one's own; a list of somebody else's; the state of draws -/
inductive Sv where
  | d (x : PyData) | cell (xs : List PyData) | bor (xs : List PyData) | st
  /-- a value that is known; a dict of one's own, of somebody else's, one that stays (t: its keys are tuples, else ints) -/
  | kn (v : V) | tab (t : Bool) (kvs : List (PyData × PyData)) | btab (t : Bool) (kvs : List (PyData × PyData)) | ktab (t : Bool) (kvs : List (PyData × PyData))
  /-- a tuple whose object is known to have no dict; a list of one's own of such -/
  | xt (xs : List PyData) | xc (xss : List (List PyData))
/-- the written part, the program, the world -/
structure KW where
  K : PySem.W.Frag
  P : Program
  w : World
instance : Coe KW PySem.W.Frag := ⟨KW.K⟩
abbrev _root_.L2.Cx.kw (X : Cx) : KW := ⟨X.K, X.prog, X.w⟩
/-- what may change by its one holder -/
def Sv.loose : Sv → Bool
  | .cell _ => true
  | .tab _ _ => true
  | .xc _ => true
  | _ => false
def Sv.own : Sv → Bool
  | .d _ => true
  | .cell _ => true
  | .kn _ => true
  | .tab _ _ => true
  | .ktab _ _ => true
  | .xt _ => true
  | .xc _ => true
  | _ => false
abbrev Ev := List (Option Sv)
abbrev FE := Ev → Nat → Option (Sv × Nat)
abbrev FA := Ev → Nat → Option (List Sv × Nat)
abbrev FT := Ev → Nat → Option (Bool × Nat)
abbrev FF := List Sv → Nat → Option (Sv × Nat)
inductive Fl where
  | nx | rt (v : Sv) | bk | ct
abbrev FS := Ev → Nat → Option (Fl × Ev × Nat)
def big : Nat := 100000
theorem big_le {n : Nat} (h : n ≤ big) : n ≤ sizeLine := Nat.le_trans h (by decide)
/-- as data, to look at -/
def Sv.see : Sv → Option PyData
  | .d x => some x
  | .cell xs => some (.list xs)
  | .bor xs => some (.list xs)
  | .xt xs => some (.tuple xs)
  | _ => none
/-- as data, to keep -/
def Sv.take : Sv → Option PyData
  | .d x => some x
  | .cell xs => some (.list xs)
  | .xt xs => some (.tuple xs)
  | _ => none
/-- as an argument -/
def Sv.arg : Sv → Sv
  | .cell xs => .d (.list xs)
  | .tab t kvs => .ktab t kvs
  | .xc xss => .d (.list (xss.map PyData.tuple))
  | x => x
/-! dicts: keys as data, the object -/
mutual
def nk : PyData → Option NestedKey
  | .none => some .none
  | .int i => some (.num i)
  | .str x => some (.text x)
  | .tuple xs => match nks xs with
    | some ks => some (.tup ks)
    | none => none
  | _ => none
def nks : List PyData → Option (List NestedKey)
  | [] => some []
  | x :: xs => match nk x, nks xs with
    | some k, some ks => some (k :: ks)
    | _, _ => none
end
/-- a key of a dict whose keys are tuples (t), ints -/
def nkT (d : PyData) : Option NestedKey := match d with
  | .tuple xs => (match nk (.tuple xs) with
    | some k => if k.depth ≤ 8 then some k else none
    | none => none)
  | _ => none
def keyH (W : KW) (t : Bool) (d : PyData) : Option Int := if t = true then (match nkT d with
    | some k => some (k.hash W.w)
    | none => none) else (match d with
    | .int i => some (hashInt i)
    | _ => none)
/-- a thing whose object is known -/
def rawO (p : Addr) (o : Obj) : HO := .ext fun h => h.get? p = some o
theorem rawO_tup {p : Addr} {o : Obj} : ∀ xs, rawO p o ≠ .tup xs := fun _ z => nomatch z
def EntR (W : KW) (I : Hp) (t : Bool) (kv : PyData × PyData) (e : DictEntry) : Prop := ∃ a b, RelV a e.key ∧ RelV b e.val ∧ Dp W I a kv.1 ∧ Dp W I b kv.2 ∧ keyH W t kv.1 = some e.hash
structure TabR (W : KW) (I : Hp) (p : Addr) (o : Obj) (t : Bool) (kvs : List (PyData × PyData)) : Prop where
  ns : (p == sysModules) = false
  ex : o.ExactDict
  len : kvs.length ≤ big
  nd : (kvs.map (·.1)).Nodup
  en : ∃ es ep, o.data = .dict es ep ∧ Paired (EntR W I t) kvs es.toList
theorem TabR.mono {W : KW} {I I' : Hp} {p o t kvs} (s : Same I I') (h : TabR W I p o t kvs) : TabR W I' p o t kvs := by
  obtain ⟨es, ep, e, q⟩ := h.en
  exact ⟨h.ns, h.ex, h.len, h.nd, es, ep, e, Paired.mapP q fun kv en ⟨a, b, h1, h2, h3, h4, h5⟩ => ⟨a, b, h1, h2, Dp.mono s _ _ h3, Dp.mono s _ _ h4, h5⟩⟩
/-! ### the state that a def changes: how often was drawn (up to big), or a dict whose keys are tuples of small numbers (its code) -/
def keyN (m : Nat) : Nat → List Nat
  | 0 => []
  | f + 1 => if m ≤ 1 then [] else (m % 8) :: keyN (m / 8) f
def decL (m : Nat) : Nat → List (List Nat × Nat)
  | 0 => []
  | f + 1 => if m = 0 then [] else (keyN (m % 2 ^ 40 / 16) 12, m % 16) :: decL (m / 2 ^ 40) f
def decN (n : Nat) : List (List Nat × Nat) := decL (n - (big + 1)) 300
def entT (p : List Nat × Nat) : PyData × PyData := (.tuple (p.1.map fun (i : Nat) => PyData.int (i : Int)), .int (p.2 : Int))
def decT (n : Nat) : List (PyData × PyData) := (decN n).map entT
structure Stt where
  a : Addr
  W : KW
instance : Coe Stt Addr := ⟨Stt.a⟩
def StS (st : Stt) (n : Nat) (I : Hp) (o : HO) : Prop := if n ≤ big then o = .lst (List.replicate n (.int 0)) else ∃ ob, o = rawO st.a ob ∧ TabR st.W I st.a ob true (decT n)
theorem StS.mono {st : Stt} {n : Nat} {I I' : Hp} {o : HO} (s : Same I I') (h : StS st n I o) : StS st n I' o := by
  unfold StS at h ⊢
  split at h
  · rename_i hn
    rw [if_pos hn]
    exact h
  · rename_i hn
    rw [if_neg hn]
    obtain ⟨ob, e, t⟩ := h
    exact ⟨ob, e, t.mono s⟩
theorem StS.lst {st : Stt} {n : Nat} {I : Hp} {o : HO} (hn : n ≤ big) (h : StS st n I o) : o = .lst (List.replicate n (.int 0)) := by
  unfold StS at h
  rw [if_pos hn] at h
  exact h
theorem StS.of {st : Stt} {n : Nat} {I : Hp} (hn : n ≤ big) : StS st n I (.lst (List.replicate n (.int 0))) := by
  unfold StS
  rw [if_pos hn]
theorem StS.tab {st : Stt} {n : Nat} {I : Hp} {o : HO} (hn : big < n) (h : StS st n I o) : ∃ ob, o = rawO st.a ob ∧ TabR st.W I st.a ob true (decT n) := by
  unfold StS at h
  rw [if_neg (by omega)] at h
  exact h
theorem StS.tup {st : Stt} {n : Nat} {I : Hp} {o : HO} (h : StS st n I o) : ∀ xs, o ≠ .tup xs := by
  unfold StS at h
  split at h
  · rw [h]
    exact fun _ z => nomatch z
  · obtain ⟨ob, e, _⟩ := h
    rw [e]
    exact rawO_tup
/-! ### the world of a frame -/
structure Wr (st : Stt) (n : Nat) (I H : Hp) : Prop where
  im : Im I H
  ist : I st = none
  hst : ∃ o, H st = some o ∧ StS st n I o
theorem Wr.up {st : Stt} {n : Nat} {I H I' H' : Hp} (w : Wr st n I H) (s : Same I I') (h : ∀ o, H st.a = some o → H' st.a = some o) : ∃ o, H' st.a = some o ∧ StS st n I' o := by
  obtain ⟨o, h1, h2⟩ := w.hst
  exact ⟨o, h _ h1, h2.mono s⟩
theorem Wr.lst {st : Stt} {n : Nat} {I H : Hp} (w : Wr st n I H) (hn : n ≤ big) : H st.a = some (.lst (List.replicate n (.int 0))) := by
  obtain ⟨o, h1, h2⟩ := w.hst
  rw [h1, h2.lst hn]
structure Xt (st : Stt) (n' : Nat) (I H I' H' : Hp) : Prop where
  w : Wr st n' I' H'
  ii : Same I I'
  hh : ∀ b o, b ≠ st.a → H b = some o → H' b = some o
  old : ∀ b o, H b = some o → I' b = I b
theorem Im.same_upd {I H : Hp} {p : Addr} {o : HO} (m : Im I H) (h : H p = some o) : Same I (upd I p o) := fun b u e => by
  by_cases q : b = p
  · subst q
    rw [upd_same]
    rw [m.sub _ _ e] at h
    exact h.symm
  · rw [upd_ne q]
    exact e
theorem Xt.refl {st n I H} (w : Wr st n I H) : Xt st n I H I H := ⟨w, Same.refl _, fun _ _ _ h => h, fun _ _ _ => rfl⟩
theorem Xt.trans {st n1 n2 I H I1 H1 I2 H2} (a : Xt st n1 I H I1 H1) (b : Xt st n2 I1 H1 I2 H2) : Xt st n2 I H I2 H2 := by
  refine ⟨b.w, a.ii.trans b.ii, fun c o n e => b.hh c o n (a.hh c o n e), fun c o e => ?_⟩
  by_cases h : c = st.a
  · subst h
    rw [b.w.ist, ← a.old _ o e, a.w.ist]
  · exact (b.old c o (a.hh c o h e)).trans (a.old c o e)
/-- an address that is new -/
theorem Xt.free {st n I H I' H' p} (x : Xt st n I H I' H') (hp : H' p = none) (hs : p ≠ st) : H p = none := by
  cases q : H p with
  | none => rfl
  | some o => rw [x.hh p o hs q] at hp; cases hp
theorem Wr.ne_st {st n I H p} (w : Wr st n I H) (hp : H p = none) : p ≠ st := fun e => by
  obtain ⟨o, h1, _⟩ := w.hst
  rw [e, h1] at hp
  cases hp
theorem Wr.ine {st n I H p} (w : Wr st n I H) (hp : H p = none) : I p = none := w.im.sub.free hp
/-- something new that stays -/
theorem Xt.lay {st n I H p o} (w : Wr st n I H) (hp : H p = none) : Xt st n I H (upd I p o) (upd H p o) := by
  have e := Ext.lay (o := o) w.im hp
  have hs := w.ne_st hp
  exact ⟨⟨e.im, by rw [upd_ne hs.symm]; exact w.ist, w.up e.ii fun o h => by rw [upd_ne hs.symm]; exact h⟩, e.ii, fun b o _ h => e.hh b o h, e.old⟩
/-- a new list of one's own -/
theorem Xt.cell {st n I H p xs} (w : Wr st n I H) (hp : H p = none) : Xt st n I H I (upd H p (.lst xs)) := by
  have e := Ext.cell (xs := xs) w.im hp
  have hs := w.ne_st hp
  exact ⟨⟨e.im, w.ist, w.up (Same.refl _) fun o h => by rw [upd_ne hs.symm]; exact h⟩, e.ii, fun b o _ h => e.hh b o h, e.old⟩
/-- a list of one's own is changed; it is new since I H -/
theorem Xt.put {st n I H I' H' p xs} (x : Xt st n I H I' H') (hp : H p = none) (ip : I' p = none) (hs : p ≠ st) : Xt st n I H I' (upd H' p (.lst xs)) :=
  ⟨⟨x.w.im.put ip, x.w.ist, x.w.up (Same.refl _) fun o h => by rw [upd_ne hs.symm]; exact h⟩, x.ii, fun b o hb h => by rw [upd_ne (ne_of_none h hp)]; exact x.hh b o hb h, x.old⟩
/-- a list of one's own is changed no more -/
theorem Xt.freeze {st n I H I' H' p xs} (x : Xt st n I H I' H') (hp : H p = none) (hs : p ≠ st) (h : H' p = some (.lst xs)) : Xt st n I H (upd I' p (.lst xs)) H' := by
  refine ⟨⟨x.w.im.freeze h, by rw [upd_ne hs.symm]; exact x.w.ist, x.w.up (x.w.im.same_upd h) fun _ z => z⟩, fun b o e => ?_, x.hh, fun b o e => ?_⟩
  · by_cases q : b = p
    · subst q
      rw [upd_same]
      rw [x.w.im.sub _ _ (x.ii _ _ e)] at h
      exact h.symm
    · rw [upd_ne q]
      exact x.ii _ _ e
  · rw [upd_ne (ne_of_none e hp)]
    exact x.old _ _ e
/-- the same of anything but a tuple -/
theorem Im.putO {I H : Hp} {p : Addr} {o : HO} (m : Im I H) (ip : I p = none) (no : ∀ xs, o ≠ .tup xs) : Im I (upd H p o) := by
  refine ⟨fun b x e => ?_, fun b ys e => ?_⟩
  · rw [upd_ne (ne_of_none e ip)]
    exact m.sub _ _ e
  · by_cases h : b = p
    · subst h
      rw [upd_same] at e
      exact absurd (Option.some.inj e) (no ys)
    · rw [upd_ne h] at e
      exact m.tup _ _ e
theorem Im.freezeO {I H : Hp} {p : Addr} {o : HO} (m : Im I H) (hp : H p = some o) (no : ∀ xs, o ≠ .tup xs) : Im (upd I p o) H := by
  refine ⟨fun b u e => ?_, fun b xs e => ?_⟩
  · by_cases h : b = p
    · subst h
      rw [upd_same] at e
      cases e
      exact hp
    · rw [upd_ne h] at e
      exact m.sub _ _ e
  · rw [upd_ne (ne_of e hp (fun z => no xs z.symm))]
    exact m.tup _ _ e
theorem Xt.putO {st n I H I' H' p o} (x : Xt st n I H I' H') (hp : H p = none) (ip : I' p = none) (hs : p ≠ st) (no : ∀ xs, o ≠ .tup xs) : Xt st n I H I' (upd H' p o) :=
  ⟨⟨x.w.im.putO ip no, x.w.ist, x.w.up (Same.refl _) fun o h => by rw [upd_ne hs.symm]; exact h⟩, x.ii, fun b o hb h => by rw [upd_ne (ne_of_none h hp)]; exact x.hh b o hb h, x.old⟩
theorem Xt.freezeO {st n I H I' H' p o} (x : Xt st n I H I' H') (hp : H p = none) (hs : p ≠ st) (h : H' p = some o) (no : ∀ xs, o ≠ .tup xs) : Xt st n I H (upd I' p o) H' := by
  refine ⟨⟨x.w.im.freezeO h no, by rw [upd_ne hs.symm]; exact x.w.ist, x.w.up (x.w.im.same_upd h) fun _ z => z⟩, fun b o e => ?_, x.hh, fun b o e => ?_⟩
  · by_cases q : b = p
    · subst q
      rw [upd_same]
      rw [x.w.im.sub _ _ (x.ii _ _ e)] at h
      exact h.symm
    · rw [upd_ne q]
      exact x.ii _ _ e
  · rw [upd_ne (ne_of_none e hp)]
    exact x.old _ _ e
/-- the state has grown -/
theorem Xt.draw {st n I H} (w : Wr st n I H) (hn : n < big) : Xt st (n + 1) I H I (upd H st.a (.lst (List.replicate n (.int 0) ++ [.int 0]))) :=
  ⟨⟨w.im.put w.ist, w.ist, ⟨_, upd_same, by rw [← List.replicate_succ']; exact StS.of (by omega)⟩⟩, Same.refl _, fun b o hb h => by rw [upd_ne hb]; exact h, fun _ _ _ => rfl⟩
/-! ### values -/
/-- a tuple whose object is known to have no dict -/
def XT (K : KW) (I : Hp) (v : V) (xs : List PyData) : Prop := ∃ p vs o, v = .ref p ∧ I p = some (.frz o (.tup vs)) ∧ o.cls = .type "tuple" ∧ o.dict = none ∧ DpAll K I vs xs
theorem XT.mono {K : KW} {I I' : Hp} {v : V} {xs : List PyData} (s : Same I I') (h : XT K I v xs) : XT K I' v xs := by
  obtain ⟨p, vs, o, e, h1, h2, h3, h4⟩ := h
  exact ⟨p, vs, o, e, s _ _ h1, h2, h3, DpAll.mono s _ _ h4⟩
theorem XT.dp {K : KW} {I : Hp} {v : V} {xs : List PyData} (h : XT K I v xs) : Dp K I v (.tuple xs) := by
  obtain ⟨p, vs, o, e, h1, h2, h3, h4⟩ := h
  subst e
  exact .tup (.inl (.inr ⟨o, h1⟩)) h4
abbrev XTs (K : KW) (I : Hp) : List V → List (List PyData) → Prop := Paired (XT K I)
theorem XTs.mono {K : KW} {I I' : Hp} {vs : List V} {xss : List (List PyData)} (s : Same I I') (h : XTs K I vs xss) : XTs K I' vs xss := Paired.mapP h fun _ _ z => z.mono s
theorem XTs.dp {K : KW} {I : Hp} : ∀ {vs : List V} {xss : List (List PyData)}, XTs K I vs xss → DpAll K I vs (xss.map PyData.tuple)
  | _, _, .nil => .nil
  | _, _, .cons h t => .cons h.dp (XTs.dp t)
def SvR (K : KW) (st : Stt) (I H : Hp) (v : V) : Sv → Prop
  | .d x => Dp K I v x
  | .cell xs => ∃ p vs, v = .ref p ∧ H p = some (.lst vs) ∧ I p = none ∧ p ≠ st ∧ DpAll K I vs xs
  | .bor xs => ∃ p vs, v = .ref p ∧ H p = some (.lst vs) ∧ I p = none ∧ p ≠ st ∧ DpAll K I vs xs
  | .st => v = .ref st.a ∧ st.W = K
  | .kn u => v = u
  | .tab t kvs => ∃ p o, v = .ref p ∧ H p = some (rawO p o) ∧ I p = none ∧ p ≠ st ∧ TabR K I p o t kvs
  | .btab t kvs => ∃ p o, v = .ref p ∧ H p = some (rawO p o) ∧ I p = none ∧ p ≠ st ∧ TabR K I p o t kvs
  | .ktab t kvs => ∃ p o, v = .ref p ∧ I p = some (rawO p o) ∧ TabR K I p o t kvs
  | .xt xs => XT K I v xs
  | .xc xss => ∃ p vs, v = .ref p ∧ H p = some (.lst vs) ∧ I p = none ∧ p ≠ st ∧ XTs K I vs xss
/-- a list of one's own is new -/
def Fr (H : Hp) (v : V) : Sv → Prop
  | .cell _ => ∀ p, v = .ref p → H p = none
  | .xc _ => ∀ p, v = .ref p → H p = none
  | .tab _ _ => ∀ p, v = .ref p → H p = none
  | _ => True
section
variable {K : KW} {st : Stt} {n n' : Nat} {I H I' H' H0 I0 : Hp} {v : V} {sv : Sv}
theorem SvR.mono (x : Xt st n I H I' H') (h : SvR K st I H v sv) : SvR K st I' H' v sv := by
  cases sv with
  | d d => exact Dp.mono x.ii _ _ h
  | cell xs =>
    obtain ⟨p, vs, e, h1, h2, h3, h4⟩ := h
    exact ⟨p, vs, e, x.hh _ _ h3 h1, by rw [x.old _ _ h1]; exact h2, h3, DpAll.mono x.ii _ _ h4⟩
  | bor xs =>
    obtain ⟨p, vs, e, h1, h2, h3, h4⟩ := h
    exact ⟨p, vs, e, x.hh _ _ h3 h1, by rw [x.old _ _ h1]; exact h2, h3, DpAll.mono x.ii _ _ h4⟩
  | st => exact h
  | kn u => exact h
  | tab t kvs =>
    obtain ⟨p, vs, e, h1, h2, h3, h4⟩ := h
    exact ⟨p, vs, e, x.hh _ _ h3 h1, by rw [x.old _ _ h1]; exact h2, h3, h4.mono x.ii⟩
  | btab t kvs =>
    obtain ⟨p, vs, e, h1, h2, h3, h4⟩ := h
    exact ⟨p, vs, e, x.hh _ _ h3 h1, by rw [x.old _ _ h1]; exact h2, h3, h4.mono x.ii⟩
  | ktab t kvs =>
    obtain ⟨p, o, e, h1, h2⟩ := h
    exact ⟨p, o, e, x.ii _ _ h1, h2.mono x.ii⟩
  | xt xs => exact XT.mono x.ii h
  | xc xs =>
    obtain ⟨p, vs, e, h1, h2, h3, h4⟩ := h
    exact ⟨p, vs, e, x.hh _ _ h3 h1, by rw [x.old _ _ h1]; exact h2, h3, h4.mono x.ii⟩
theorem Fr.back {I'' H'' : Hp} (x : Xt st n I H I' H') (r : SvR K st I'' H'' v sv) (h : Fr H' v sv) : Fr H v sv := by
  cases sv with
  | cell xs =>
    obtain ⟨p, vs, e, h1, h2, h3, h4⟩ := r
    intro q eq
    have e2 : p = q := V.ref.inj (e.symm.trans eq)
    subst e2
    exact x.free (h p e) h3
  | tab t kvs =>
    obtain ⟨p, vs, e, h1, h2, h3, h4⟩ := r
    intro q eq
    have e2 : p = q := V.ref.inj (e.symm.trans eq)
    subst e2
    exact x.free (h p e) h3
  | d _ => trivial
  | bor _ => trivial
  | st => trivial
  | kn _ => trivial
  | btab _ _ => trivial
  | ktab _ _ => trivial
  | xt _ => trivial
  | xc xs =>
    obtain ⟨p, vs, e, h1, h2, h3, h4⟩ := r
    intro q eq
    have e2 : p = q := V.ref.inj (e.symm.trans eq)
    subst e2
    exact x.free (h p e) h3
/-- what is looked at: data of the heap as it stands, its items kept ones -/
def See (K : KW) (I H : Hp) (v : V) (d : PyData) : Prop := Dp K I v d ∨ ∃ p vs xs, v = .ref p ∧ d = .list xs ∧ H p = some (.lst vs) ∧ DpAll K I vs xs
theorem SvR.see {d : PyData} (h : SvR K st I H v sv) (e : sv.see = some d) : See K I H v d := by
  cases sv with
  | d x => cases e; exact .inl h
  | cell xs => cases e; obtain ⟨p, vs, e, h1, _, _, h4⟩ := h; exact .inr ⟨p, vs, xs, e, rfl, h1, h4⟩
  | bor xs => cases e; obtain ⟨p, vs, e, h1, _, _, h4⟩ := h; exact .inr ⟨p, vs, xs, e, rfl, h1, h4⟩
  | st => cases e
  | kn _ => cases e
  | tab _ _ => cases e
  | btab _ _ => cases e
  | ktab _ _ => cases e
  | xt xs => cases e; exact .inl (XT.dp h)
  | xc _ => cases e
theorem See.dp {d : PyData} (m : Im I H) (h : See K I H v d) : Dp K H v d := by
  rcases h with h | ⟨p, vs, xs, rfl, rfl, h1, h2⟩
  · exact Dp.mono m.sub _ _ h
  · exact .lst (SqL.of h1) (DpAll.mono m.sub _ _ h2)
theorem See.mono {d : PyData} (x : Xt st n I H I' H') (hst : v ≠ .ref st) (h : See K I H v d) : See K I' H' v d := by
  rcases h with h | ⟨p, vs, xs, rfl, rfl, h1, h2⟩
  · exact .inl (Dp.mono x.ii _ _ h)
  · exact .inr ⟨p, vs, xs, rfl, rfl, x.hh _ _ (fun e => hst (by rw [e])) h1, DpAll.mono x.ii _ _ h2⟩
theorem See.int {i : Int} (h : See K I H v (.int i)) : v = .int i := by
  rcases h with h | ⟨_, _, _, _, e, _⟩
  · cases h; rfl
  · cases e
theorem See.bool {i : Bool} (h : See K I H v (.bool i)) : v = .bl i := by
  rcases h with h | ⟨_, _, _, _, e, _⟩
  · cases h; rfl
  · cases e
theorem See.str {i : Str} (h : See K I H v (.str i)) : v = .str i := by
  rcases h with h | ⟨_, _, _, _, e, _⟩
  · cases h; rfl
  · cases e
theorem See.none (h : See K I H v .none) : v = .non := by
  rcases h with h | ⟨_, _, _, _, e, _⟩
  · cases h; rfl
  · cases e
theorem See.lst {xs : List PyData} (m : Im I H) (h : See K I H v (.list xs)) : ∃ p vs, v = .ref p ∧ SqL K H p vs ∧ DpAll K I vs xs := by
  rcases h with h | ⟨p, vs, ys, e, e2, h1, h2⟩
  · cases h with
    | lst h1 h2 => exact ⟨_, _, rfl, m.sub.seq h1, h2⟩
  · cases e2; exact ⟨p, vs, e, SqL.of h1, h2⟩
theorem See.tup {xs : List PyData} (m : Im I H) (h : See K I H v (.tuple xs)) : ∃ p vs, v = .ref p ∧ SqT K H p vs ∧ SqT K I p vs ∧ DpAll K I vs xs := by
  rcases h with h | ⟨p, vs, ys, e, e2, h1, h2⟩
  · cases h with
    | tup h1 h2 => exact ⟨_, _, rfl, ex_sqT m.sub h1, h1, h2⟩
  · cases e2
/-- kept from now on -/
theorem SvR.keep {d : PyData} (x : Xt st n I H I' H') (h : SvR K st I' H' v sv) (f : Fr H v sv) (e : sv.take = some d) : ∃ I'', Xt st n I H I'' H' ∧ Same I' I'' ∧ Dp K I'' v d := by
  cases sv with
  | d y => cases e; exact ⟨I', x, Same.refl _, h⟩
  | cell xs =>
    cases e
    obtain ⟨p, vs, e, h1, h2, h3, h4⟩ := h
    subst e
    have s2 : Same I' (upd I' p (.lst vs)) := same_new h2
    exact ⟨_, x.freeze (f p rfl) h3 h1, s2, .lst (SqL.of upd_same) (DpAll.mono s2 _ _ h4)⟩
  | bor xs => cases e
  | st => cases e
  | kn _ => cases e
  | tab _ _ => cases e
  | btab _ _ => cases e
  | ktab _ _ => cases e
  | xt xs => cases e; exact ⟨I', x, Same.refl _, XT.dp h⟩
  | xc _ => cases e
/-- as an argument -/
theorem SvR.argOf (x : Xt st n I H I' H') (h : SvR K st I' H' v sv) (f : Fr H v sv) : ∃ I'', Xt st n I H I'' H' ∧ SvR K st I'' H' v sv.arg := by
  cases sv with
  | d y => exact ⟨I', x, h⟩
  | cell xs => obtain ⟨I'', x2, _, k⟩ := SvR.keep (d := .list xs) x h f rfl; exact ⟨I'', x2, k⟩
  | bor xs => exact ⟨I', x, h⟩
  | st => exact ⟨I', x, h⟩
  | kn _ => exact ⟨I', x, h⟩
  | btab _ _ => exact ⟨I', x, h⟩
  | ktab _ _ => exact ⟨I', x, h⟩
  | xt _ => exact ⟨I', x, h⟩
  | xc xs =>
    obtain ⟨p, vs, e, h1, h2, h3, h4⟩ := h
    subst e
    have s2 : Same I' (upd I' p (.lst vs)) := same_new h2
    exact ⟨_, x.freeze (f p rfl) h3 h1, .lst (SqL.of upd_same) (h4.mono s2).dp⟩
  | tab t kvs =>
    obtain ⟨p, o, e, h1, h2, h3, h4⟩ := h
    exact ⟨_, x.freezeO (f p e) h3 h1 rawO_tup, p, o, e, upd_same, h4.mono (same_new h2)⟩
end
/-! ### slots -/
def Own (H0 : Hp) (v : V) : Sv → Prop
  | .cell _ => ∀ p, v = .ref p → H0 p = none
  | .xc _ => ∀ p, v = .ref p → H0 p = none
  | .tab _ _ => ∀ p, v = .ref p → H0 p = none
  | .bor _ => ∀ p, v = .ref p → (H0 p).isSome
  | .btab _ _ => ∀ p, v = .ref p → (H0 p).isSome
  | _ => True
structure Er (K : KW) (st : Stt) (H0 I H : Hp) (σ : L2.St) (e : Ev) : Prop where
  len : σ.length = e.length
  at_ : ∀ (i : Nat) (sv : Sv), e[i]? = some (some sv) → ∃ v, σ[i]? = some (some v) ∧ SvR K st I H v sv ∧ Own H0 v sv
  ap : ∀ (i j : Nat) (sv sv' : Sv) (p : Addr), i ≠ j → e[i]? = some (some sv) → e[j]? = some (some sv') → sv.loose = true → sv'.loose = true → σ[i]? = some (some (.ref p)) → σ[j]? ≠ some (some (.ref p))
section
variable {K : KW} {st : Stt} {n n' : Nat} {I H I' H' H0 I0 : Hp} {v : V} {sv : Sv} {σ : L2.St} {e : Ev}
theorem Er.mono (E : Er K st H0 I H σ e) (x : Xt st n I H I' H') : Er K st H0 I' H' σ e :=
  ⟨E.len, fun i sv q => by obtain ⟨v, h1, h2, h3⟩ := E.at_ i sv q; exact ⟨v, h1, SvR.mono x h2, h3⟩, E.ap⟩
/-- a slot gets data -/
theorem Er.set (E : Er K st H0 I H σ e) (i : Nat) (h : SvR K st I H v sv) (o : Own H0 v sv)
    (hn : ∀ p j sv', sv.loose = true → v = .ref p → j ≠ i → e[j]? = some (some sv') → sv'.loose = true → σ[j]? ≠ some (some (.ref p))) : Er K st H0 I H (σ.set i (some v)) (e.set i (some sv)) := by
  refine ⟨by rw [List.length_set, List.length_set]; exact E.len, fun j sv2 q => ?_, fun j k xs ys p hjk q1 q2 l1 l2 q3 => ?_⟩
  · by_cases hj : i = j
    · subst hj
      have hl : i < e.length := by
        have := (List.getElem?_eq_some_iff.mp q).1
        simpa using this
      rw [List.getElem?_set_self hl] at q
      cases q
      exact ⟨v, List.getElem?_set_self (by rw [E.len]; exact hl), h, o⟩
    · rw [List.getElem?_set_ne hj] at q
      rw [List.getElem?_set_ne hj]
      exact E.at_ j sv2 q
  · by_cases hj : i = j
    · subst hj
      have hk : i ≠ k := hjk
      have hl : i < e.length := by
        have := (List.getElem?_eq_some_iff.mp q1).1
        simpa using this
      rw [List.getElem?_set_self hl] at q1
      rw [List.getElem?_set_self (by rw [E.len]; exact hl)] at q3
      rw [List.getElem?_set_ne hk] at q2 ⊢
      cases q1
      exact hn p k ys l1 (Option.some.inj (Option.some.inj q3)) hk.symm q2 l2
    · by_cases hk : i = k
      · subst hk
        have hl : i < e.length := by
          have := (List.getElem?_eq_some_iff.mp q2).1
          simpa using this
        rw [List.getElem?_set_self hl] at q2
        rw [List.getElem?_set_self (by rw [E.len]; exact hl)]
        rw [List.getElem?_set_ne hj] at q1 q3
        cases q2
        intro z
        exact hn p j xs l2 (Option.some.inj (Option.some.inj z)) (Ne.symm hj) q1 l1 q3
      · rw [List.getElem?_set_ne hj] at q1 q3
        rw [List.getElem?_set_ne hk] at q2 ⊢
        exact E.ap j k xs ys p hjk q1 q2 l1 l2 q3
theorem Er.setD {d : PyData} (E : Er K st H0 I H σ e) (i : Nat) (h : Dp K I v d) : Er K st H0 I H (σ.set i (some v)) (e.set i (some (.d d))) :=
  E.set i (sv := .d d) h trivial (fun _ _ _ z => nomatch z)
theorem SvR.at {p : Addr} (h : SvR K st I H v sv) (l : sv.loose = true) (e : v = .ref p) : ∃ o, H p = some o := by
  cases sv with
  | cell xs => obtain ⟨q, vs, e2, h1, _⟩ := h; cases e2.symm.trans e; exact ⟨_, h1⟩
  | tab t kvs => obtain ⟨q, vs, e2, h1, _⟩ := h; cases e2.symm.trans e; exact ⟨_, h1⟩
  | xc xs => obtain ⟨q, vs, e2, h1, _⟩ := h; cases e2.symm.trans e; exact ⟨_, h1⟩
  | xt _ => cases l
  | d _ => cases l
  | bor _ => cases l
  | st => cases l
  | kn _ => cases l
  | btab _ _ => cases l
  | ktab _ _ => cases l
/-- a new list of one's own -/
theorem Er.setNew {m : Nat} (E : Er K st H0 I H σ e) (x : Xt st n I H I' H') (x0 : Xt st m I0 H0 I H) (i : Nat) (h : SvR K st I' H' v sv) (f : Fr H v sv) (nb : sv.own = true) : Er K st H0 I' H' (σ.set i (some v)) (e.set i (some sv)) := by
  refine (E.mono x).set i h ?_ (fun p j ys l1 e2 hj q1 l2 q2 => ?_)
  · cases sv with
    | cell xs =>
      intro p ep
      obtain ⟨p2, vs, e2, _, _, h3, _⟩ := h
      have : p = p2 := V.ref.inj (ep.symm.trans e2)
      subst this
      exact x0.free (f p ep) h3
    | tab t kvs =>
      intro p ep
      obtain ⟨p2, vs, e2, _, _, h3, _⟩ := h
      have : p = p2 := V.ref.inj (ep.symm.trans e2)
      subst this
      exact x0.free (f p ep) h3
    | xc xs =>
      intro p ep
      obtain ⟨p2, vs, e2, _, _, h3, _⟩ := h
      have : p = p2 := V.ref.inj (ep.symm.trans e2)
      subst this
      exact x0.free (f p ep) h3
    | xt _ => trivial
    | bor xs => cases nb
    | btab _ _ => cases nb
    | d _ => trivial
    | st => trivial
    | kn _ => trivial
    | ktab _ _ => trivial
  · obtain ⟨v2, h1, h2, _⟩ := E.at_ j _ q1
    rw [q2] at h1
    cases h1
    obtain ⟨o, ho⟩ := SvR.at h2 l2 rfl
    have g : H p = none := by
      cases sv with
      | cell xs => exact f p e2
      | tab t kvs => exact f p e2
      | xc _ => exact f p e2
      | xt _ => cases l1
      | d _ => cases l1
      | bor _ => cases l1
      | st => cases l1
      | kn _ => cases l1
      | btab _ _ => cases l1
      | ktab _ _ => cases l1
    rw [g] at ho
    cases ho
/-- forget slots -/
def wipeE (e : Ev) : List Nat → Ev
  | [] => e
  | i :: is => (wipeE e is).set i none
theorem wipeE_len (e : Ev) : ∀ is, (wipeE e is).length = e.length
  | [] => rfl
  | i :: is => by rw [wipeE, List.length_set, wipeE_len e is]
theorem wipeE_some {e : Ev} {j : Nat} {sv : Sv} : ∀ {is : List Nat}, (wipeE e is)[j]? = some (some sv) → e[j]? = some (some sv) ∧ j ∉ is
  | [], h => ⟨h, List.not_mem_nil⟩
  | i :: is, h => by
    rw [wipeE] at h
    by_cases hj : i = j
    · subst hj
      have hl : i < (wipeE e is).length := by
        have := (List.getElem?_eq_some_iff.mp h).1
        simpa using this
      rw [List.getElem?_set_self hl] at h
      cases h
    · rw [List.getElem?_set_ne hj] at h
      obtain ⟨h1, h2⟩ := wipeE_some h
      exact ⟨h1, by simp only [List.mem_cons, not_or]; exact ⟨fun q => hj q.symm, h2⟩⟩
theorem Er.wipeE (E : Er K st H0 I H σ e) (is : List Nat) : Er K st H0 I H σ (wipeE e is) :=
  ⟨by rw [wipeE_len]; exact E.len, fun i sv q => E.at_ i sv (wipeE_some q).1, fun i j xs ys p h q1 q2 => E.ap i j xs ys p h (wipeE_some q1).1 (wipeE_some q2).1⟩
theorem wipe_get {σ : L2.St} {j : Nat} : ∀ {is : List Nat}, j ∉ is → (wipe σ is)[j]? = σ[j]?
  | [], _ => rfl
  | i :: is, h => by
    simp only [List.mem_cons, not_or] at h
    rw [wipe, List.getElem?_set_ne (fun q => h.1 q.symm)]
    exact wipe_get h.2
theorem Er.wipe (E : Er K st H0 I H σ e) (is : List Nat) : Er K st H0 I H (wipe σ is) (Sb.wipeE e is) := by
  refine ⟨by rw [wipe_length, wipeE_len]; exact E.len, fun i sv q => ?_, fun i j xs ys p h q1 q2 l1 l2 q3 => ?_⟩
  · obtain ⟨q1, q2⟩ := wipeE_some q
    rw [wipe_get q2]
    exact E.at_ i sv q1
  · obtain ⟨a1, a2⟩ := wipeE_some q1
    obtain ⟨b1, b2⟩ := wipeE_some q2
    rw [wipe_get a2] at q3
    rw [wipe_get b2]
    exact E.ap i j xs ys p h a1 b1 l1 l2 q3
end
/-! ### arguments -/
inductive ArgsR (K : KW) (st : Stt) (I H : Hp) : List V → List Sv → Prop
  | nil : ArgsR K st I H [] []
  | cons {v vs a as} : SvR K st I H v a → a.loose = false → ArgsR K st I H vs as → ArgsR K st I H (v :: vs) (a :: as)
theorem ArgsR.mono {K : KW} {st n I H I' H'} (x : Xt st n I H I' H') : ∀ {vs as}, ArgsR K st I H vs as → ArgsR K st I' H' vs as
  | _, _, .nil => .nil
  | _, _, .cons h1 h2 h3 => .cons (SvR.mono x h1) h2 (ArgsR.mono x h3)
theorem ArgsR.len {K : KW} {st I H} : ∀ {vs as}, ArgsR K st I H vs as → vs.length = as.length
  | _, _, .nil => rfl
  | _, _, .cons _ _ h => by rw [List.length_cons, List.length_cons, ArgsR.len h]
theorem arg_nocell (sv : Sv) : sv.arg.loose = false := by
  cases sv <;> rfl
/-- all kept data -/
def keepAll : List Sv → Option (List PyData)
  | [] => some []
  | .d x :: r => match keepAll r with
    | some xs => some (x :: xs)
    | none => none
  | _ :: _ => none
theorem ArgsR.keepAll {K : KW} {st I H} : ∀ {vs as ds}, ArgsR K st I H vs as → keepAll as = some ds → DpAll K I vs ds
  | _, _, _, .nil, e => by cases e; exact .nil
  | _, _, ds, .cons (a := a) (as := as) h1 _ h3, e => by
    cases a with
    | d x =>
      unfold Sb.keepAll at e
      cases q : Sb.keepAll as with
      | none => rw [q] at e; cases e
      | some xs => rw [q] at e; cases e; exact .cons h1 (ArgsR.keepAll h3 q)
    | cell _ => cases e
    | bor _ => cases e
    | st => cases e
    | kn _ => cases e
    | tab _ _ => cases e
    | btab _ _ => cases e
    | ktab _ _ => cases e
    | xt _ => cases e
    | xc _ => cases e
/-! ### the judgements' readings -/
def tE (K : KW) (f : FE) : TE := fun σ H Q => ∃ st n H0 I e, Wr st n I H ∧ Er K st H0 I H σ e ∧ ∃ sv n', f e n = some (sv, n') ∧ ∀ v I' H', Xt st n' I H I' H' → SvR K st I' H' v sv → Fr H v sv → Q v H'
def tAs (K : KW) (f : FA) : TA := fun σ H Q => ∃ st n H0 I e, Wr st n I H ∧ Er K st H0 I H σ e ∧ ∃ as n', f e n = some (as, n') ∧ ∀ vs I' H', Xt st n' I H I' H' → ArgsR K st I' H' vs as → Q vs H'
def tTs (K : KW) (f : FT) : TT := fun σ H Q => ∃ st n H0 I e, Wr st n I H ∧ Er K st H0 I H σ e ∧ ∃ b n', f e n = some (b, n') ∧ ∀ I' H', Xt st n' I H I' H' → Q b H'
def Fin (K : KW) (st : Stt) (I0 H0 I : Hp) (D : Ends) (fl : Fl) (e' : Ev) (n' : Nat) : Prop :=
  match fl with
  | .nx => ∀ σ' I' H', Xt st n' I0 H0 I' H' → Er K st H0 I' H' σ' e' → Same I I' → D.nx σ' H'
  | .rt sv => ∀ v I' H', Xt st n' I0 H0 I' H' → SvR K st I' H' v sv → Fr H0 v sv → D.rt v H'
  | .bk => ∀ σ' I' H', Xt st n' I0 H0 I' H' → Er K st H0 I' H' σ' e' → Same I I' → D.bk σ' H'
  | .ct => ∀ σ' I' H', Xt st n' I0 H0 I' H' → Er K st H0 I' H' σ' e' → Same I I' → D.ct σ' H'
theorem Fin.up {K : KW} {st I0 H0 I I1 D fl e' n'} (s : Same I I1) (h : Fin K st I0 H0 I D fl e' n') : Fin K st I0 H0 I1 D fl e' n' := by
  cases fl with
  | nx => exact fun σ' I' H' x E s' => h σ' I' H' x E (s.trans s')
  | rt v => exact h
  | bk => exact fun σ' I' H' x E s' => h σ' I' H' x E (s.trans s')
  | ct => exact fun σ' I' H' x E s' => h σ' I' H' x E (s.trans s')
def tSs (K : KW) (f : FS) : TS := fun D σ H => ∃ st n I0 H0 I e, Xt st n I0 H0 I H ∧ Er K st H0 I H σ e ∧ ∃ fl e' n', f e n = some (fl, e', n') ∧ Fin K st I0 H0 I D fl e' n'
/-- a def's promise -/
def spF (K : KW) (np : Nat) (f : FF) : Sp := fun vs H Q _ => vs.length = np ∧ ∃ st n I as, Wr st n I H ∧ ArgsR K st I H vs as ∧ ∃ sv n', f as n = some (sv, n') ∧ ∀ v I' H', Xt st n' I H I' H' → SvR K st I' H' v sv → Fr H v sv → Q v H'
section
variable {X : Cx} {e : Expr} {t u : TE}
theorem _root_.L2.PE.by {t u : TE} (h : PE X e t) (k : ∀ σ H Q, u σ H Q → t σ H Q) : PE X e u := ⟨fun pins s σ H Q I q => h.run pins s σ H Q I (k σ H Q q)⟩
theorem _root_.L2.PT.by {t u : TT} (h : PT X e t) (k : ∀ σ H Q, u σ H Q → t σ H Q) : PT X e u := ⟨fun pins s σ H Q I q => h.run pins s σ H Q I (k σ H Q q)⟩
theorem _root_.L2.PA.by {es : List Expr} {t u : TA} (h : PA X es t) (k : ∀ σ H Q, u σ H Q → t σ H Q) : PA X es u := ⟨fun pos pins s σ H Q I q => h.run pos pins s σ H Q I (k σ H Q q)⟩
theorem _root_.L2.PS.by {st : Stmt} {t u : TS} (h : PS X st t) (k : ∀ D σ H, u D σ H → t D σ H) : PS X st u := ⟨fun pins s σ H D I q => h.run pins s σ H D I (k D σ H q)⟩
theorem _root_.L2.PSs.by {st : List Stmt} {t u : TS} (h : PSs X st t) (k : ∀ D σ H, u D σ H → t D σ H) : PSs X st u := ⟨fun pins s σ H D I q => h.run pins s σ H D I (k D σ H q)⟩
theorem _root_.L2.PI.by {tg it : Expr} {t u : TI} (h : PI X tg it t) (k : ∀ σ H R, u σ H R → t σ H R) : PI X tg it u := ⟨fun pins s σ H R I q => h.run pins s σ H R I (k σ H R q)⟩
theorem _root_.L2.PTs.by {ifs : List Expr} {t u : TT} (h : PTs X ifs t) (k : ∀ σ H Q, u σ H Q → t σ H Q) : PTs X ifs u := ⟨fun pins s σ H Q I q => h.run pins s σ H Q I (k σ H Q q)⟩
end
end Sb
/-! P1: expressions. -/
namespace Sb
open PySem PySem.Spec PyProof.Rows L2
section
variable {X : Cx} {e e2 e3 : Expr} {es : List Expr} {f g : FE} {fa : FA} {ft fu : FT}
/-! ### names, constants -/
def fVar (i : Nat) : FE := fun e n => match e[i]? with
  | some (some (.d x)) => some (.d x, n)
  | some (some (.cell xs)) => some (.bor xs, n)
  | some (some (.bor xs)) => some (.bor xs, n)
  | some (some .st) => some (.st, n)
  | some (some (.kn u)) => some (.kn u, n)
  | some (some (.tab t kvs)) => some (.btab t kvs, n)
  | some (some (.btab t kvs)) => some (.btab t kvs, n)
  | some (some (.ktab t kvs)) => some (.ktab t kvs, n)
  | _ => none
theorem e_var {i : Nat} (h : PE X e (tVar i)) : PE X e (tE X.kw (fVar i)) := h.by fun σ H Q ⟨st, n, H0, I, ev, w, E, sv, n', q, k⟩ => by
  unfold fVar at q
  cases q0 : ev[i]? with
  | none => rw [q0] at q; cases q
  | some o =>
    rw [q0] at q
    cases o with
    | none => cases q
    | some s0 =>
      obtain ⟨v, h1, h2, h3⟩ := E.at_ i s0 q0
      refine ⟨v, h1, ?_⟩
      cases s0 with
      | d x => cases q; exact k v I H (.refl w) h2 trivial
      | cell x => cases q; exact k v I H (.refl w) h2 trivial
      | bor x => cases q; exact k v I H (.refl w) h2 trivial
      | st => cases q; exact k v I H (.refl w) h2 trivial
      | kn _ => cases q; exact k v I H (.refl w) h2 trivial
      | tab _ _ => cases q; exact k v I H (.refl w) h2 trivial
      | btab _ _ => cases q; exact k v I H (.refl w) h2 trivial
      | ktab _ _ => cases q; exact k v I H (.refl w) h2 trivial
      | xt _ => cases q
      | xc _ => cases q
def fC (d : PyData) : FE := fun _ n => some (.d d, n)
theorem e_cst {v : V} {d : PyData} (h : PE X e (tC v)) (r : ∀ I, Dp X.K I v d) : PE X e (tE X.kw (fC d)) := h.by fun σ H Q ⟨st, n, H0, I, ev, w, E, sv, n', q, k⟩ => by
  cases q
  exact k v I H (.refl w) (r I) trivial
theorem e_int {i j pos} : PE X (.Constant (.int i) j pos) (tE X.kw (fC (.int i))) := e_cst pe_int fun _ => .int i
theorem e_bl {b j pos} : PE X (.Constant (.bool b) j pos) (tE X.kw (fC (.bool b))) := e_cst pe_bl fun _ => .bl b
theorem e_non {j pos} : PE X (.Constant .none j pos) (tE X.kw (fC .none)) := e_cst pe_non fun _ => .non
theorem e_str {x j pos} : PE X (.Constant (.str x) j pos) (tE X.kw (fC (.str x))) := e_cst pe_str fun _ => .str x
/-! ### two operands -/
def fOp2 (g : Sv → Sv → Option Sv) (f1 f2 : FE) : FE := fun e n => match f1 e n with
  | none => none
  | some (a, n1) => match f2 e n1 with
    | none => none
    | some (b, n2) => match g a b with
      | none => none
      | some c => some (c, n2)
theorem fOp2_eq {g : Sv → Sv → Option Sv} {f1 f2 : FE} {e n sv n'} (h : fOp2 g f1 f2 e n = some (sv, n')) : ∃ a n1 b, f1 e n = some (a, n1) ∧ f2 e n1 = some (b, n') ∧ g a b = some sv := by
  unfold fOp2 at h
  split at h
  · cases h
  · rename_i a n1 e1
    split at h
    · cases h
    · rename_i b n2 e2
      split at h
      · cases h
      · rename_i c e3
        cases h
        exact ⟨a, n1, b, e1, e2, e3⟩
/-- the rule r does what g says -/
def RDo (K : KW) (r : R2) (g : Sv → Sv → Option Sv) : Prop := ∀ st n I H x y a b sv (Q : VK), Wr st n I H → SvR K st I H x a → SvR K st I H y b → g a b = some sv → (∀ v I' H', Xt st n I H I' H' → SvR K st I' H' v sv → Fr H v sv → Q v H') → r x y H Q
theorem t_op2 {K : KW} {r : R2} {g : Sv → Sv → Option Sv} {f1 f2 : FE} (hd : RDo K r g) (σ : L2.St) (H : Hp) (Q : VK) (h : tE K (fOp2 g f1 f2) σ H Q) : tOp r (tE K f1) (tE K f2) σ H Q := by
  obtain ⟨st, n, H0, I, ev, w, E, sv, n', q, k⟩ := h
  obtain ⟨a, n1, b, q1, q2, q3⟩ := fOp2_eq q
  refine ⟨st, n, H0, I, ev, w, E, a, n1, q1, fun x I1 H1 x1 r1 f1 => ⟨st, n1, H0, I1, ev, x1.w, E.mono x1, b, n', q2, fun y I2 H2 x2 r2 f2 => ?_⟩⟩
  exact hd st n' I2 H2 x y a b sv Q x2.w (r1.mono x2) r2 q3 fun v I3 H3 x3 r3 f3 => k v I3 H3 ((x1.trans x2).trans x3) r3 (Fr.back (x1.trans x2) r3 f3)
theorem e_op {op : Operator} {r : R2} {gg : Sv → Sv → Option Sv} {a b : Expr} {f1 f2 : FE} {pos : Pos} (hr : OpR X (binaryOp op) r) (hd : RDo X.kw r gg) (h1 : PE X a (tE X.kw f1)) (h2 : PE X b (tE X.kw f2)) : PE X (.BinOp a op b pos) (tE X.kw (fOp2 gg f1 f2)) :=
  (pe_op hr h1 h2).by fun σ H Q h => t_op2 hd σ H Q h
theorem e_cmp {op : CmpOp} {r : R2} {gg : Sv → Sv → Option Sv} {a b : Expr} {f1 f2 : FE} {pos : Pos} (hr : OpR X (compareOp op) r) (hd : RDo X.kw r gg) (h1 : PE X a (tE X.kw f1)) (h2 : PE X b (tE X.kw f2)) (hm : behindInMarks op b = false) : PE X (.Compare a [op] [b] pos) (tE X.kw (fOp2 gg f1 f2)) :=
  (pe_cmpR hr h1 h2 hm).by fun σ H Q h => t_op2 hd σ H Q h
theorem e_ix {r : R2} {gg : Sv → Sv → Option Sv} {a b : Expr} {f1 f2 : FE} {pos : Pos} (hr : IxR X r) (hd : RDo X.kw r gg) (h1 : PE X a (tE X.kw f1)) (h2 : PE X b (tE X.kw f2)) (hs : PlainIx b) : PE X (.Subscript a b pos) (tE X.kw (fOp2 gg f1 f2)) :=
  (pe_ix hr h1 h2 hs).by fun σ H Q h => t_op2 hd σ H Q h
/-- by what is seen -/
def seeB (g : PyData → PyData → Option PyData) (a b : Sv) : Option Sv := match a.see, b.see with
  | some x, some y => match g x y with
    | some z => some (.d z)
    | none => none
  | _, _ => none
theorem seeB_eq {g : PyData → PyData → Option PyData} {a b sv} (h : seeB g a b = some sv) : ∃ x y z, a.see = some x ∧ b.see = some y ∧ g x y = some z ∧ sv = .d z := by
  unfold seeB at h
  split at h
  · rename_i x y e1 e2
    split at h
    · rename_i z e3
      cases h
      exact ⟨x, y, z, e1, e2, e3, rfl⟩
    · cases h
  · cases h
/-- rules that look at data and give data -/
def RDs (K : KW) (r : R2) (g : PyData → PyData → Option PyData) : Prop := ∀ st n I H x y a b d (Q : VK), Wr st n I H → See K I H x a → See K I H y b → g a b = some d → (∀ v I' H', Xt st n I H I' H' → Dp K I' v d → Q v H') → r x y H Q
theorem RDs.do {K : KW} {r g} (h : RDs K r g) : RDo K r (seeB g) := by
  intro st n I H x y a b sv Q w ha hb e k
  obtain ⟨x', y', z, e1, e2, e3, rfl⟩ := seeB_eq e
  exact h st n I H x y x' y' z Q w (ha.see e1) (hb.see e2) e3 fun v I' H' x kd => k v I' H' x kd trivial
/-! ### + - * // % ** -/
def addD (a b : PyData) : Option PyData := match a, b with
  | .int i, .int j => some (.int (i + j))
  | .str x, .str y => if x.length + y.length ≤ big then some (.str (x ++ y)) else none
  | .tuple xs, .tuple ys => if xs.length + ys.length ≤ big then some (.tuple (xs ++ ys)) else none
  | _, _ => none
def addL (a b : Sv) : Option Sv := match a, b with
  | .bor xs, .cell ys => if xs.length + ys.length ≤ big then some (.cell (xs ++ ys)) else none
  | .cell xs, .cell ys => if xs.length + ys.length ≤ big then some (.cell (xs ++ ys)) else none
  | .cell xs, .bor ys => if xs.length + ys.length ≤ big then some (.cell (xs ++ ys)) else none
  | .bor xs, .bor ys => if xs.length + ys.length ≤ big then some (.cell (xs ++ ys)) else none
  | a, b => seeB addD a b
def rAddI : R2 := rI0 fun i j => .int (i + j)
def rAddS : R2 := fun x y H Q => ∃ i j, x = .str i ∧ y = .str j ∧ i.length + j.length ≤ sizeLine ∧ Q (.str (i ++ j)) H
def rAddA (K : KW) : R2 := fun x y H Q => rAddI x y H Q ∨ (rAddS x y H Q ∨ (rCatA K x y H Q ∨ rCat x y H Q))
theorem op_addA : OpR X (binaryOp .Add) (rAddA X.kw) := OpR.or' op_add (OpR.or' op_add_str (OpR.or' op_catA op_cat))
theorem dp_tupNew {K : KW} {st n I H xs} {ds : List PyData} (w : Wr st n I H) (ha : DpAll K I xs ds) {p : Addr} (hp : H p = none) : Xt st n I H (upd I p (.tup xs)) (upd H p (.tup xs)) ∧ Dp K (upd I p (.tup xs)) (.ref p) (.tuple ds) :=
  ⟨Xt.lay w hp, .tup (.inl (.inl upd_same)) (DpAll.mono (same_new (w.ine hp)) _ _ ha)⟩
theorem rd_addA {K : KW} : RDs K (rAddA K) addD := by
  intro st n I H x y a b d Q w ha hb e k
  unfold addD at e
  split at e
  · cases e
    exact .inl ⟨_, _, ha.int, hb.int, k _ I H (.refl w) (.int _)⟩
  · split at e
    · rename_i i j hl
      cases e
      exact .inr (.inl ⟨_, _, ha.str, hb.str, big_le hl, k _ I H (.refl w) (.str _)⟩)
    · cases e
  · split at e
    · rename_i xs ys hl
      cases e
      obtain ⟨p, vs, e1, t1, i1, d1⟩ := ha.tup w.im
      obtain ⟨q, us, e2, t2, i2, d2⟩ := hb.tup w.im
      refine .inr (.inr (.inl ⟨p, q, vs, us, e1, e2, t1, t2, by rw [DpAll.len d1, DpAll.len d2]; exact big_le hl, fun z => ?_, fun _ z => ?_, fun _ _ p' hp => ?_⟩))
      · subst z
        cases d1
        exact k _ I H (.refl w) (.tup i2 d2)
      · subst z
        cases d2
        rw [List.append_nil] at k
        exact k _ I H (.refl w) (.tup i1 d1)
      · obtain ⟨x1, k1⟩ := dp_tupNew w (DpAll.app d1 d2) hp
        exact k _ _ _ x1 k1
    · cases e
  · cases e
theorem lst_cat {K : KW} {st n I H x y xs ys} {Q : VK} (w : Wr st n I H) (ha : ∃ p vs, x = .ref p ∧ H p = some (.lst vs) ∧ I p = none ∧ p ≠ st ∧ DpAll K I vs xs) (hb : ∃ p vs, y = .ref p ∧ H p = some (.lst vs) ∧ I p = none ∧ p ≠ st ∧ DpAll K I vs ys)
    (hl : xs.length + ys.length ≤ big) (k : ∀ v I' H', Xt st n I H I' H' → SvR K st I' H' v (.cell (xs ++ ys)) → Fr H v (.cell (xs ++ ys)) → Q v H') : rCat x y H Q := by
  obtain ⟨p, vs, e1, h1, _, _, d1⟩ := ha
  obtain ⟨q, us, e2, h2, _, _, d2⟩ := hb
  refine ⟨p, q, vs, us, e1, e2, h1, h2, by rw [DpAll.len d1, DpAll.len d2]; exact big_le hl, fun r hr => ?_⟩
  exact k _ I _ (Xt.cell w hr) ⟨r, _, rfl, upd_same, w.ine hr, w.ne_st hr, DpAll.app d1 d2⟩ fun z ez => by rw [← V.ref.inj ez]; exact hr
theorem rd_add2 {K : KW} : RDo K (rAddA K) addL := by
  intro st n I H x y a b sv Q w ha hb e k
  have go : seeB addD a b = some sv → rAddA K x y H Q := fun e => RDs.do rd_addA st n I H x y a b sv Q w ha hb e k
  unfold addL at e
  split at e
  all_goals first
    | exact go e
    | (split at e
       · cases e
         exact .inr (.inr (.inr (lst_cat w ha hb (by assumption) k)))
       · cases e)
def subD : PyData → PyData → Option PyData
  | .int i, .int j => some (.int (i - j))
  | _, _ => none
theorem rd_subD {K : KW} : RDs K (rI0 fun i j => .int (i - j)) subD := by
  intro st n I H x y a b d Q w ha hb e k
  unfold subD at e
  split at e
  · cases e
    exact ⟨_, _, ha.int, hb.int, k _ I H (.refl w) (.int _)⟩
  · cases e
def mulD : PyData → PyData → Option PyData
  | .int i, .int j => if (-(2 ^ 64) < i ∧ i < 2 ^ 64) ∨ (-(2 ^ 64) < j ∧ j < 2 ^ 64) then some (.int (i * j)) else none
  | .tuple xs, .int k => if 1 ≤ k ∧ k ≤ 1000 ∧ xs.length ≤ 1000 then some (.tuple (List.replicate k.toNat xs).flatten) else none
  | _, _ => none
def rMulA (K : KW) : R2 := fun x y H Q => rI CMul (fun i j => .int (i * j)) x y H Q ∨ rRepA K x y H Q
theorem op_mulA : OpR X (binaryOp .Mult) (rMulA X.kw) := OpR.or' op_mul op_repA
theorem rep_one (xs : List PyData) : (List.replicate 1 xs).flatten = xs := by simp
theorem rep_nil (k : Nat) : (List.replicate k ([] : List PyData)).flatten = [] := by
  induction k with
  | zero => rfl
  | succ j ih => rw [List.replicate_succ, List.flatten_cons, ih]; rfl
theorem rd_mulD {K : KW} : RDs K (rMulA K) mulD := by
  intro st n I H x y a b d Q w ha hb e k
  unfold mulD at e
  split at e
  · split at e
    · rename_i hc
      cases e
      exact .inl ⟨_, _, ha.int, hb.int, hc, k _ I H (.refl w) (.int _)⟩
    · cases e
  · split at e
    · rename_i xs j hc
      cases e
      obtain ⟨p, vs, e1, t1, i1, d1⟩ := ha.tup w.im
      refine .inr ⟨p, j, vs, e1, hb.int, t1, hc.1, hc.2.1, by rw [DpAll.len d1]; exact hc.2.2, fun z => ?_, fun _ _ p' hp => ?_⟩
      · subst e1
        have q : (List.replicate j.toNat xs).flatten = xs := by
          rcases z with z | z
          · subst z
            cases d1
            exact rep_nil _
          · subst z
            exact rep_one xs
        rw [q] at k
        exact k _ I H (.refl w) (.tup i1 d1)
      · obtain ⟨x1, k1⟩ := dp_tupNew w (DpAll.rep d1 j.toNat) hp
        exact k _ _ _ x1 k1
    · cases e
  · cases e
def fdivD : PyData → PyData → Option PyData
  | .int i, .int j => if j ≠ 0 ∧ j.natAbs < 1073741824 then some (.int (i.fdiv j)) else none
  | _, _ => none
theorem rd_fdivD {K : KW} : RDs K (rI CDivN fun i j => .int (i.fdiv j)) fdivD := by
  intro st n I H x y a b d Q w ha hb e k
  unfold fdivD at e
  split at e
  · split at e
    · rename_i hc
      cases e
      exact ⟨_, _, ha.int, hb.int, hc, k _ I H (.refl w) (.int _)⟩
    · cases e
  · cases e
def modD : PyData → PyData → Option PyData
  | .int i, .int j => if j ≠ 0 then some (.int (i.fmod j)) else none
  | _, _ => none
theorem rd_modD {K : KW} : RDs K (rI (fun _ j => j ≠ 0) fun i j => .int (i.fmod j)) modD := by
  intro st n I H x y a b d Q w ha hb e k
  unfold modD at e
  split at e
  · split at e
    · rename_i hc
      cases e
      exact ⟨_, _, ha.int, hb.int, hc, k _ I H (.refl w) (.int _)⟩
    · cases e
  · cases e
def powD : PyData → PyData → Option PyData
  | .int i, .int j => if 0 ≤ j ∧ j ≤ 1000000 ∧ i.natAbs < 2 ^ 64 then some (.int (i ^ j.toNat)) else none
  | _, _ => none
theorem rd_powD {K : KW} : RDs K (rI CPow fun i j => .int (i ^ j.toNat)) powD := by
  intro st n I H x y a b d Q w ha hb e k
  unfold powD at e
  split at e
  · split at e
    · rename_i hc
      cases e
      exact ⟨_, _, ha.int, hb.int, hc, k _ I H (.refl w) (.int _)⟩
    · cases e
  · cases e
/-! ### comparisons -/
def ordB (op : CmpOp) (a b : PyData) : Bool := match op with
  | .Lt => PySem.W.dataLt a b
  | .Gt => PySem.W.dataLt b a
  | .LtE => !PySem.W.dataLt b a
  | _ => !PySem.W.dataLt a b
def nonD : PyData → Bool
  | .none => true
  | _ => false
def ordOk (a b : PyData) : Bool := PySem.W.alike a b && !nonD a && decide (a.depth ≤ 60)
def ordD (op : CmpOp) (a b : PyData) : Option PyData := if ordOk a b = true then some (.bool (ordB op a b)) else none
def rOrd (K : KW) (op : CmpOp) : R2 := fun x y H Q => ∃ d e, Dp K H x d ∧ Dp K H y e ∧ ordOk d e = true ∧ Q (.bl (ordB op d e)) H
theorem op_ord {op : CmpOp} (ho : op = .Lt ∨ op = .Gt ∨ op = .LtE ∨ op = .GtE) (hu : X.A.units + 64 < cLine) : OpR X (compareOp op) (rOrd X.kw op) := by
  intro pins s σ H x y v u Q I rx ry ⟨d, e, hd, he, hc, q⟩
  obtain ⟨as, r1⟩ := Dp.reads I d x v hd rx
  obtain ⟨bs, r2⟩ := Dp.reads I e y u he ry
  unfold ordOk at hc
  rw [Bool.and_eq_true, Bool.and_eq_true, decide_eq_true_eq] at hc
  obtain ⟨⟨c1, c2⟩, c3⟩ := hc
  have c4 : d ≠ .none := fun z => by subst z; cases c2
  have c5 : X.A.units + min d.depth e.depth < cLine := by have : min d.depth e.depth ≤ d.depth := Nat.min_le_left _ _; omega
  rcases ho with rfl | rfl | rfl | rfl
  · exact PySem.W.lt_data r1 r2 c1 c4 c5 ⟨.bl _, H, I, rfl, q⟩
  · exact PySem.W.gt_data r1 r2 c1 c4 c5 ⟨.bl _, H, I, rfl, q⟩
  · exact PySem.W.le_data r1 r2 c1 c4 c5 ⟨.bl _, H, I, rfl, q⟩
  · exact PySem.W.ge_data r1 r2 c1 c4 c5 ⟨.bl _, H, I, rfl, q⟩
theorem rd_ord {K : KW} {op : CmpOp} : RDs K (rOrd K op) (ordD op) := by
  intro st n I H x y a b d Q w ha hb e k
  unfold ordD at e
  split at e
  · cases e
    exact ⟨a, b, ha.dp w.im, hb.dp w.im, by assumption, k _ I H (.refl w) (.bl _)⟩
  · cases e
def eqD (neg : Bool) (a b : PyData) : Option PyData := match a, b with
  | .str x, .str y => some (.bool (decide (x = y) != neg))
  | .int x, .int y => some (.bool (decide (x = y) != neg))
  | .bool x, .bool y => some (.bool (decide (x = y) != neg))
  | a, b => if SeqAt.shaped a = true ∧ SeqAt.shaped b = true then some (.bool (PyData.eqv a b != neg)) else none
def rEqA (K : KW) : R2 := fun x y H Q => rEq x y H Q ∨ rEqD K x y H Q
def rNeA (K : KW) : R2 := fun x y H Q => rNe x y H Q ∨ rNeD K x y H Q
theorem op_eqA (hu : X.A.units + 64 < cLine) : OpR X (compareOp .Eq) (rEqA X.kw) := OpR.or' op_eq (op_eqD hu)
theorem op_neA (hu : X.A.units + 64 < cLine) : OpR X (compareOp .NotEq) (rNeA X.kw) := OpR.or' op_ne (op_neD hu)
theorem dec_str {x y : Str} : decide (V.str x = V.str y) = decide (x = y) := decide_eq_decide.mpr ⟨fun h => V.str.inj h, fun h => by rw [h]⟩
theorem dec_int {x y : Int} : decide (V.int x = V.int y) = decide (x = y) := decide_eq_decide.mpr ⟨fun h => V.int.inj h, fun h => by rw [h]⟩
theorem dec_bl {x y : Bool} : decide (V.bl x = V.bl y) = decide (x = y) := decide_eq_decide.mpr ⟨fun h => V.bl.inj h, fun h => by rw [h]⟩
theorem rd_eqD' {K : KW} : RDs K (rEqA K) (eqD false) := by
  intro st n I H x y a b d Q w ha hb e k
  unfold eqD at e
  split at e
  · cases e
    rw [Bool.bne_false] at k
    exact .inl (by rw [ha.str, hb.str]; exact ⟨rfl, by rw [dec_str]; exact k _ I H (.refl w) (.bl _)⟩)
  · cases e
    rw [Bool.bne_false] at k
    exact .inl (by rw [ha.int, hb.int]; exact ⟨rfl, by rw [dec_int]; exact k _ I H (.refl w) (.bl _)⟩)
  · cases e
    rw [Bool.bne_false] at k
    exact .inl (by rw [ha.bool, hb.bool]; exact ⟨rfl, by rw [dec_bl]; exact k _ I H (.refl w) (.bl _)⟩)
  · split at e
    · rename_i h
      cases e
      rw [Bool.bne_false] at k
      exact .inr ⟨a, b, ha.dp w.im, hb.dp w.im, h.1, h.2, k _ I H (.refl w) (.bl _)⟩
    · cases e
theorem rd_neD' {K : KW} : RDs K (rNeA K) (eqD true) := by
  intro st n I H x y a b d Q w ha hb e k
  unfold eqD at e
  split at e
  · cases e
    rw [Bool.bne_true] at k
    exact .inl (by rw [ha.str, hb.str]; exact ⟨rfl, by rw [dec_str]; exact k _ I H (.refl w) (.bl _)⟩)
  · cases e
    rw [Bool.bne_true] at k
    exact .inl (by rw [ha.int, hb.int]; exact ⟨rfl, by rw [dec_int]; exact k _ I H (.refl w) (.bl _)⟩)
  · cases e
    rw [Bool.bne_true] at k
    exact .inl (by rw [ha.bool, hb.bool]; exact ⟨rfl, by rw [dec_bl]; exact k _ I H (.refl w) (.bl _)⟩)
  · split at e
    · rename_i h
      cases e
      rw [Bool.bne_true] at k
      exact .inr ⟨a, b, ha.dp w.im, hb.dp w.im, h.1, h.2, k _ I H (.refl w) (.bl _)⟩
    · cases e
/-! in -/
def inD (neg : Bool) (a b : PyData) : Option PyData := match b with
  | .list ds => if SeqAt.shaped a = true ∧ SeqAt.shaped (.list ds) = true then some (.bool ((ds.any fun z => PyData.eqv z a) != neg)) else none
  | .tuple ds => if SeqAt.shaped a = true ∧ PyData.canLayAll0 ds = true then some (.bool ((ds.any fun z => PyData.eqv z a) != neg)) else none
  | .str z => match a with
    | .str c => match c.cps.toList with
      | [k] => some (.bool (decide (k ∈ z.cps.toList) != neg))
      | _ => none
    | _ => none
  | _ => none
def rInAll (K : KW) (neg : Bool) : R2 := fun x y H Q =>
  (∃ d ds, Dp K H x d ∧ Dp K H y (.list ds) ∧ SeqAt.shaped d = true ∧ SeqAt.shaped (.list ds) = true ∧ Q (.bl ((ds.any fun z => PyData.eqv z d) != neg)) H) ∨
  (∃ d ds, Dp K H x d ∧ Dp K H y (.tuple ds) ∧ SeqAt.shaped d = true ∧ PyData.canLayAll0 ds = true ∧ Q (.bl ((ds.any fun z => PyData.eqv z d) != neg)) H) ∨
  (∃ (c : Nat) (z : Str), x = .str ⟨#[c]⟩ ∧ y = .str z ∧ Q (.bl (decide (c ∈ z.cps.toList) != neg)) H)
theorem op_notInAll (hu : X.A.units + 65 < cLine) : OpR X (compareOp .NotIn) (rInAll X.kw true) := by
  intro pins s σ H x y v u Q I rx ry h
  rcases h with ⟨d, ds, hd, he, sd, se, q⟩ | ⟨d, ds, hd, he, sd, se, q⟩ | ⟨c, z, e1, e2, q⟩
  · rw [Bool.bne_true] at q
    exact op_notInD hu pins s σ H x y v u Q I rx ry ⟨d, ds, hd, he, sd, se, q⟩
  · rw [Bool.bne_true] at q
    obtain ⟨as, r1⟩ := Dp.reads I d x v hd rx
    obtain ⟨bs, r2⟩ := Dp.reads I (.tuple ds) y u he ry
    exact SeqAt.notIn_tuple_reads r2 r1 se (SeqAt.canLay_of_shaped sd) (room_in_shaped sd hu) ⟨.bl _, H, I, rfl, q⟩
  · rw [Bool.bne_true] at q
    exact op_notIn_sign pins s σ H x y v u Q I rx ry ⟨c, z, e1, e2, q⟩
theorem rd_inD' {K : KW} {neg : Bool} : RDs K (rInAll K neg) (inD neg) := by
  intro st n I H x y a b d Q w ha hb e k
  unfold inD at e
  split at e
  · split at e
    · rename_i h
      cases e
      exact .inl ⟨a, _, ha.dp w.im, hb.dp w.im, h.1, h.2, k _ I H (.refl w) (.bl _)⟩
    · cases e
  · split at e
    · rename_i h
      cases e
      exact .inr (.inl ⟨a, _, ha.dp w.im, hb.dp w.im, h.1, h.2, k _ I H (.refl w) (.bl _)⟩)
    · cases e
  · split at e
    · split at e
      · rename_i z _ c _ k' hk
        cases e
        refine .inr (.inr ⟨k', z, ?_, hb.str, k _ I H (.refl w) (.bl _)⟩)
        rw [ha.str]
        congr 1
        cases c with
        | mk cps =>
          congr 1
          apply Array.toList_inj.mp
          exact hk
      · cases e
    · cases e
  · cases e
/-! is -/
def isNoneD (neg : Bool) (a b : PyData) : Option PyData := match b with
  | .none => some (.bool (nonD a != neg))
  | .bool y => match a with
    | .bool x => some (.bool (decide (x = y) != neg))
    | _ => none
  | _ => none
def rIsAll (neg : Bool) : R2 := fun x y H Q => (y = .non ∧ Q (.bl (decide (x = .non) != neg)) H) ∨ ∃ a b : Bool, x = .bl a ∧ y = .bl b ∧ Q (.bl (decide (a = b) != neg)) H
theorem op_isNotAll : OpR X (compareOp .IsNot) (rIsAll true) := by
  intro pins s σ H x y v u Q I rx ry h
  rcases h with ⟨e, q⟩ | ⟨a, b, e1, e2, q⟩
  · rw [Bool.bne_true] at q
    exact op_notN pins s σ H x y v u Q I rx ry ⟨e, q⟩
  · rw [Bool.bne_true] at q
    exact op_notBl pins s σ H x y v u Q I rx ry ⟨a, b, e1, e2, q⟩
theorem dp_non {K H v d} (h : Dp K H v d) : decide (v = .non) = nonD d := by
  cases h <;> rfl
theorem rd_isAll {K : KW} {neg : Bool} : RDs K (rIsAll neg) (isNoneD neg) := by
  intro st n I H x y a b d Q w ha hb e k
  unfold isNoneD at e
  split at e
  · cases e
    exact .inl ⟨hb.none, by rw [dp_non (ha.dp w.im)]; exact k _ I H (.refl w) (.bl _)⟩
  · split at e
    · cases e
      exact .inr ⟨_, _, ha.bool, hb.bool, k _ I H (.refl w) (.bl _)⟩
    · cases e
  · cases e
/-! ### an item -/
def strAt (z : Str) (i : Int) : Option PyData := if z.length ≤ big then match atI z.cps.toList i with
    | some c => some (.str ⟨#[c]⟩)
    | none => none
  else none
def ixD (a b : PyData) : Option PyData := match a, b with
  | .list xs, .int i => atI xs i
  | .tuple xs, .int i => atI xs i
  | .str z, .int i => strAt z i
  | _, _ => none
theorem at_dp {K H vs ds d} {i : Int} (h : DpAll K H vs ds) (e : atI ds i = some d) : ∃ v, atI vs i = some v ∧ Dp K H v d := by
  unfold atI at e ⊢
  rw [DpAll.len h]
  cases q : ixN ds.length i with
  | none => rw [q] at e; cases e
  | some j =>
    rw [q] at e
    have e3 : ds[j]? = some d := e
    obtain ⟨v', ev', kv'⟩ := DpAll.got h e3
    exact ⟨v', ev', kv'⟩
theorem rd_ixD {K : KW} : RDs K (rIx K) ixD := by
  intro st n I H x y a b d Q w ha hb e k
  unfold ixD at e
  split at e
  · obtain ⟨p, vs, e1, h1, h2⟩ := ha.lst w.im
    obtain ⟨v, e2, kv⟩ := at_dp h2 e
    exact .inl ⟨p, vs, _, v, e1, hb.int, h1, e2, k v I H (.refl w) kv⟩
  · obtain ⟨p, vs, e1, h1, _, h2⟩ := ha.tup w.im
    obtain ⟨v, e2, kv⟩ := at_dp h2 e
    exact .inr (.inl ⟨p, vs, _, v, e1, hb.int, h1, e2, k v I H (.refl w) kv⟩)
  · unfold strAt at e
    split at e
    · rename_i z i hz
      split at e
      · rename_i c hc
        cases e
        exact .inr (.inr ⟨z, i, c, ha.str, hb.int, big_le hz, hc, k _ I H (.refl w) (.str _)⟩)
      · cases e
    · cases e
  · cases e
/-! ### not, -, and, or, if -/
def fNot (f : FE) : FE := fun e n => match f e n with
  | some (.d (.bool b), n1) => some (.d (.bool (!b)), n1)
  | _ => none
theorem e_not {pos} (h : PE X e (tE X.kw f)) : PE X (.UnaryOp .Not e pos) (tE X.kw (fNot f)) := (pe_not h).by fun σ H Q ⟨st, n, H0, I, ev, w, E, sv, n', q, k⟩ => by
  unfold fNot at q
  split at q
  · rename_i b n1 q1
    cases q
    refine ⟨st, n, H0, I, ev, w, E, _, _, q1, fun v I1 H1 x1 r1 _ => ?_⟩
    cases r1
    exact ⟨b, rfl, k _ I1 H1 x1 (.bl _) trivial⟩
  · cases q
def fNeg (f : FE) : FE := fun e n => match f e n with
  | some (.d (.int b), n1) => some (.d (.int (-b)), n1)
  | _ => none
theorem e_neg {pos} (h : PE X e (tE X.kw f)) : PE X (.UnaryOp .USub e pos) (tE X.kw (fNeg f)) := (pe_un un_neg h).by fun σ H Q ⟨st, n, H0, I, ev, w, E, sv, n', q, k⟩ => by
  unfold fNeg at q
  split at q
  · rename_i b n1 q1
    cases q
    refine ⟨st, n, H0, I, ev, w, E, _, _, q1, fun v I1 H1 x1 r1 _ => ?_⟩
    cases r1
    exact ⟨b, rfl, k _ I1 H1 x1 (.int _) trivial⟩
  · cases q
def fAnd (f g : FE) : FE := fun e n => match f e n with
  | some (.d (.bool b), n1) => if b = true then g e n1 else some (.d (.bool false), n1)
  | _ => none
def fOr (f g : FE) : FE := fun e n => match f e n with
  | some (.d (.bool b), n1) => if b = true then some (.d (.bool true), n1) else g e n1
  | _ => none
theorem e_and {es' : List Expr} {pos} (h1 : PE X e (tE X.kw f)) (h2 : PE X (.BoolOp .And (e2 :: es') pos) (tE X.kw g)) : PE X (.BoolOp .And (e :: e2 :: es') pos) (tE X.kw (fAnd f g)) := (pe_and h1 h2).by fun σ H Q ⟨st, n, H0, I, ev, w, E, sv, n', q, k⟩ => by
  unfold fAnd at q
  split at q
  · rename_i b n1 q1
    refine ⟨st, n, H0, I, ev, w, E, _, _, q1, fun v I1 H1 x1 r1 _ => ?_⟩
    cases r1
    refine ⟨b, rfl, ?_⟩
    split at q
    · rename_i hb
      rw [if_pos hb]
      exact ⟨st, n1, H0, I1, ev, x1.w, E.mono x1, sv, n', q, fun v2 I2 H2 x2 r2 f2 => k v2 I2 H2 (x1.trans x2) r2 (Fr.back x1 r2 f2)⟩
    · rename_i hb
      rw [if_neg hb]
      cases q
      exact k _ I1 H1 x1 (.bl _) trivial
  · cases q
theorem e_or {es' : List Expr} {pos} (h1 : PE X e (tE X.kw f)) (h2 : PE X (.BoolOp .Or (e2 :: es') pos) (tE X.kw g)) : PE X (.BoolOp .Or (e :: e2 :: es') pos) (tE X.kw (fOr f g)) := (pe_or h1 h2).by fun σ H Q ⟨st, n, H0, I, ev, w, E, sv, n', q, k⟩ => by
  unfold fOr at q
  split at q
  · rename_i b n1 q1
    refine ⟨st, n, H0, I, ev, w, E, _, _, q1, fun v I1 H1 x1 r1 _ => ?_⟩
    cases r1
    refine ⟨b, rfl, ?_⟩
    split at q
    · rename_i hb
      rw [if_pos hb]
      cases q
      exact k _ I1 H1 x1 (.bl _) trivial
    · rename_i hb
      rw [if_neg hb]
      exact ⟨st, n1, H0, I1, ev, x1.w, E.mono x1, sv, n', q, fun v2 I2 H2 x2 r2 f2 => k v2 I2 H2 (x1.trans x2) r2 (Fr.back x1 r2 f2)⟩
  · cases q
/-! tests -/
def bT (f : FE) : FT := fun e n => match f e n with
  | some (.d (.bool b), n1) => some (b, n1)
  | _ => none
theorem tb_of {K : KW} {σ H} {Q : Bool → Hp → Prop} (h : tTs K (bT f) σ H Q) : tB (tE K f) σ H Q := by
  obtain ⟨st, n, H0, I, ev, w, E, b, n', q, k⟩ := h
  unfold bT at q
  split at q
  · rename_i b2 n1 q1
    cases q
    refine ⟨st, n, H0, I, ev, w, E, _, _, q1, fun v I1 H1 x1 r1 _ => ?_⟩
    cases r1
    exact ⟨_, rfl, k I1 H1 x1⟩
  · cases q
end
end Sb
/-! P2: tests, arguments, displays, slices, calls. -/
namespace Sb
open PySem PySem.Spec PyProof.Rows L2
section
variable {X : Cx} {e e2 e3 : Expr} {es : List Expr} {f g : FE} {fa : FA} {ft fu : FT}
theorem bT_eq {f : FE} {e n b n'} (h : bT f e n = some (b, n')) : f e n = some (.d (.bool b), n') := by
  unfold bT at h
  split at h
  · rename_i b2 n1 q1
    cases h
    exact q1
  · cases h
theorem t_val (h : PE X e (tE X.kw f)) (he : ∀ whole, isTrue e X.env whole = (do let v ← whole; standAt e.pos; holding [v] (truthy v)) := by intro _; rfl) : PT X e (tTs X.kw (bT f)) := (pt_val h he).by fun σ H Q h => tb_of h
theorem t_cmp {op : CmpOp} {r : R2} {gg : Sv → Sv → Option Sv} {a b : Expr} {f1 f2 : FE} {pos : Pos} (hr : OpR X (compareOp op) r) (hd : RDo X.kw r gg) (h1 : PE X a (tE X.kw f1)) (h2 : PE X b (tE X.kw f2)) (hm : behindInMarks op b = false) : PT X (.Compare a [op] [b] pos) (tTs X.kw (bT (fOp2 gg f1 f2))) :=
  (pt_cmpR hr h1 h2 hm).by fun σ H Q h => by
    obtain ⟨st, n, H0, I, ev, w, E, b, n', q, k⟩ := h
    refine t_op2 hd σ H _ ⟨st, n, H0, I, ev, w, E, _, n', bT_eq q, fun v I' H' x r _ => ?_⟩
    cases r
    exact ⟨b, rfl, k I' H' x⟩
def fChain (g1 g2 : Sv → Sv → Option Sv) (fa fb fc : FE) : FE := fun e n => match fa e n with
  | none => none
  | some (a, n1) => match fb e n1 with
    | none => none
    | some (b, n2) => match g1 a b with
      | some (.d (.bool true)) => (match b with
        | .cell _ => none
        | b => match fc e n2 with
          | none => none
          | some (c, n3) => match g2 b c with
            | none => none
            | some r => some (r, n3))
      | some (.d (.bool false)) => some (.d (.bool false), n2)
      | _ => none
theorem ch_of {K : KW} {r r'} {g1 g2 : Sv → Sv → Option Sv} {f1 f2 f3 : FE} (hd : RDo K r g1) (hd' : RDo K r' g2) {σ H} {Q : VK} (h : tE K (fChain g1 g2 f1 f2 f3) σ H Q) : tChain r r' (tE K f1) (tE K f2) (tE K f3) σ H Q := by
  obtain ⟨st, n, H0, I, ev, w, E, sv, n', q, k⟩ := h
  unfold fChain at q
  split at q
  · cases q
  · rename_i a n1 q1
    split at q
    · cases q
    · rename_i b n2 q2
      refine ⟨st, n, H0, I, ev, w, E, a, n1, q1, fun x I1 H1 x1 r1 f1 => ⟨st, n1, H0, I1, ev, x1.w, E.mono x1, b, n2, q2, fun y I2 H2 x2 r2 f2 => ?_⟩⟩
      split at q
      · rename_i q3
        split at q
        · cases q
        · rename_i b' nc
          split at q
          · cases q
          · rename_i c n3 q4
            split at q
            · cases q
            · rename_i rr q5
              cases q
              refine hd st n2 I2 H2 x y a b _ _ x2.w (r1.mono x2) r2 q3 fun v I3 H3 x3 r3 f3 => ?_
              cases r3
              refine ⟨true, rfl, ?_⟩
              rw [if_pos rfl]
              have E3 := ((E.mono x1).mono x2).mono x3
              refine ⟨st, n2, H0, I3, ev, x3.w, E3, c, n', q4, fun w' I4 H4 x4 r4 f4 => ?_⟩
              refine hd' st n' I4 H4 y w' b c sv Q x4.w ((r2.mono x3).mono x4) r4 q5 fun v5 I5 H5 x5 r5 f5 => ?_
              have xx := ((x1.trans x2).trans x3).trans x4
              exact k v5 I5 H5 (xx.trans x5) r5 (Fr.back xx r5 f5)
      · rename_i q3
        cases q
        refine hd st _ I2 H2 x y a b _ _ x2.w (r1.mono x2) r2 q3 fun v I3 H3 x3 r3 f3 => ?_
        cases r3
        refine ⟨false, rfl, ?_⟩
        rw [if_neg Bool.false_ne_true]
        exact k _ I3 H3 ((x1.trans x2).trans x3) (.bl _) trivial
      · cases q
theorem e_chain {op op' : CmpOp} {r r' : R2} {g1 g2 : Sv → Sv → Option Sv} {a b c : Expr} {f1 f2 f3 : FE} {pos : Pos} (ho : OpR X (compareOp op) r) (hd : RDo X.kw r g1) (ho' : OpR X (compareOp op') r') (hd' : RDo X.kw r' g2) (ha : PE X a (tE X.kw f1)) (hb : PE X b (tE X.kw f2)) (hc : PE X c (tE X.kw f3))
    (hm : lastMarks [op, op'] [b, c] = false := by with_unfolding_all rfl) : PE X (.Compare a [op, op'] [b, c] pos) (tE X.kw (fChain g1 g2 f1 f2 f3)) := (pe_chain ho ho' ha hb hc hm).by fun σ H Q h => ch_of hd hd' h
def tAndF (f g : FT) : FT := fun e n => match f e n with
  | some (true, n1) => g e n1
  | some (false, n1) => some (false, n1)
  | none => none
def tOrF (f g : FT) : FT := fun e n => match f e n with
  | some (true, n1) => some (true, n1)
  | some (false, n1) => g e n1
  | none => none
def tNotF (f : FT) : FT := fun e n => match f e n with
  | some (b, n1) => some (!b, n1)
  | none => none
theorem t_not {pos} (h : PT X e (tTs X.kw ft)) : PT X (.UnaryOp .Not e pos) (tTs X.kw (tNotF ft)) := (pt_not h).by fun σ H Q ⟨st, n, H0, I, ev, w, E, b, n', q, k⟩ => by
  unfold tNotF at q
  split at q
  · rename_i b1 n1 q1
    cases q
    exact ⟨st, n, H0, I, ev, w, E, _, _, q1, k⟩
  · cases q
theorem w_by {t u : TT} (h : PW X e t) (k : ∀ σ H Q, u σ H Q → t σ H Q) : PW X e u := ⟨fun wh pins s σ H Q I q => h.run wh pins s σ H Q I (k σ H Q q)⟩
theorem w_and {rest : List Expr} {pos} (h1 : PT X e (tTs X.kw ft)) (h2 : PW X (.BoolOp .And (e2 :: rest) pos) (tTs X.kw fu)) : PW X (.BoolOp .And (e :: e2 :: rest) pos) (tTs X.kw (tAndF ft fu)) := w_by (pw_and h1 h2) fun σ H Q ⟨st, n, H0, I, ev, w, E, b, n', q, k⟩ => by
  unfold tAndF at q
  split at q
  · rename_i n1 q1
    refine ⟨st, n, H0, I, ev, w, E, _, _, q1, fun I1 H1 x1 => ?_⟩
    dsimp only
    rw [if_pos rfl]
    exact ⟨st, n1, H0, I1, ev, x1.w, E.mono x1, b, n', q, fun I2 H2 x2 => k I2 H2 (x1.trans x2)⟩
  · rename_i n1 q1
    cases q
    refine ⟨st, n, H0, I, ev, w, E, _, _, q1, fun I1 H1 x1 => ?_⟩
    dsimp only
    rw [if_neg Bool.false_ne_true]
    exact k I1 H1 x1
  · cases q
theorem w_or {rest : List Expr} {pos} (h1 : PT X e (tTs X.kw ft)) (h2 : PW X (.BoolOp .Or (e2 :: rest) pos) (tTs X.kw fu)) : PW X (.BoolOp .Or (e :: e2 :: rest) pos) (tTs X.kw (tOrF ft fu)) := w_by (pw_or h1 h2) fun σ H Q ⟨st, n, H0, I, ev, w, E, b, n', q, k⟩ => by
  unfold tOrF at q
  split at q
  · rename_i n1 q1
    cases q
    refine ⟨st, n, H0, I, ev, w, E, _, _, q1, fun I1 H1 x1 => ?_⟩
    dsimp only
    rw [if_pos rfl]
    exact k I1 H1 x1
  · rename_i n1 q1
    refine ⟨st, n, H0, I, ev, w, E, _, _, q1, fun I1 H1 x1 => ?_⟩
    dsimp only
    rw [if_neg Bool.false_ne_true]
    exact ⟨st, n1, H0, I1, ev, x1.w, E.mono x1, b, n', q, fun I2 H2 x2 => k I2 H2 (x1.trans x2)⟩
  · cases q
def fIf (t : FT) (f g : FE) : FE := fun e n => match t e n with
  | some (true, n1) => f e n1
  | some (false, n1) => g e n1
  | none => none
theorem e_if {c : Expr} {pos} (hc : PT X c (tTs X.kw ft)) (h1 : PE X e (tE X.kw f)) (h2 : PE X e2 (tE X.kw g)) : PE X (.IfExp c e e2 pos) (tE X.kw (fIf ft f g)) := (pe_ifExp hc h1 h2).by fun σ H Q ⟨st, n, H0, I, ev, w, E, sv, n', q, k⟩ => by
  unfold fIf at q
  split at q
  · rename_i n1 q1
    refine ⟨st, n, H0, I, ev, w, E, _, _, q1, fun I1 H1 x1 => ?_⟩
    dsimp only
    rw [if_pos rfl]
    exact ⟨st, n1, H0, I1, ev, x1.w, E.mono x1, sv, n', q, fun v2 I2 H2 x2 r2 f2 => k v2 I2 H2 (x1.trans x2) r2 (Fr.back x1 r2 f2)⟩
  · rename_i n1 q1
    refine ⟨st, n, H0, I, ev, w, E, _, _, q1, fun I1 H1 x1 => ?_⟩
    dsimp only
    rw [if_neg Bool.false_ne_true]
    exact ⟨st, n1, H0, I1, ev, x1.w, E.mono x1, sv, n', q, fun v2 I2 H2 x2 r2 f2 => k v2 I2 H2 (x1.trans x2) r2 (Fr.back x1 r2 f2)⟩
  · cases q
/-! ### arguments -/
def faNil : FA := fun _ n => some ([], n)
def faCons (f : FE) (g : FA) : FA := fun e n => match f e n with
  | none => none
  | some (a, n1) => match g e n1 with
    | none => none
    | some (as, n2) => some (a.arg :: as, n2)
theorem a_nil : PA X [] (tAs X.kw faNil) := pa_nil.by fun σ H Q ⟨st, n, H0, I, ev, w, E, as, n', q, k⟩ => by
  cases q
  exact k [] I H (.refl w) .nil
theorem a_cons (h1 : PE X e (tE X.kw f)) (h2 : PA X es (tAs X.kw fa)) (hs : starEach (e :: es) X.env = (false, eval e X.env) :: starEach es X.env := by rfl) : PA X (e :: es) (tAs X.kw (faCons f fa)) := (pa_cons h1 h2 hs).by fun σ H Q ⟨st, n, H0, I, ev, w, E, as, n', q, k⟩ => by
  unfold faCons at q
  split at q
  · cases q
  · rename_i a n1 q1
    split at q
    · cases q
    · rename_i as' n2 q2
      cases q
      refine ⟨st, n, H0, I, ev, w, E, a, n1, q1, fun x I1 H1 x1 r1 f1 => ?_⟩
      obtain ⟨I2, x2, r2⟩ := SvR.argOf x1 r1 f1
      exact ⟨st, n1, H0, I2, ev, x2.w, E.mono x2, as', _, q2, fun vs I3 H3 x3 r3 => k _ I3 H3 (x2.trans x3) (.cons (r2.mono x3) (arg_nocell a) r3)⟩
/-! displays -/
def fTup (fa : FA) : FE := fun e n => match fa e n with
  | none => none
  | some (as, n1) => match keepAll as with
    | some xs => if xs.length ≤ big then some (.d (.tuple xs), n1) else none
    | none => none
def fLst (fa : FA) : FE := fun e n => match fa e n with
  | none => none
  | some (as, n1) => match keepAll as with
    | some xs => if xs.length ≤ big then some (.cell xs, n1) else none
    | none => none
theorem sv_cellNew {K : KW} {st n I H xs} {ds : List PyData} (w : Wr st n I H) (ha : DpAll K I xs ds) {p : Addr} (hp : H p = none) : Xt st n I H I (upd H p (.lst xs)) ∧ SvR K st I (upd H p (.lst xs)) (.ref p) (.cell ds) ∧ Fr H (.ref p) (.cell ds) :=
  ⟨Xt.cell w hp, ⟨p, xs, rfl, upd_same, w.ine hp, w.ne_st hp, ha⟩, fun z ez => by rw [← V.ref.inj ez]; exact hp⟩
theorem e_tup {x1 pos} (h : PA X es (tAs X.kw fa)) : PE X (.Tuple es x1 pos) (tE X.kw (fTup fa)) := (pe_tup h).by fun σ H Q ⟨st, n, H0, I, ev, w, E, sv, n', q, k⟩ => by
  unfold fTup at q
  split at q
  · cases q
  · rename_i as n1 q1
    split at q
    · rename_i xs q2
      split at q
      · rename_i hl
        cases q
        refine ⟨st, n, H0, I, ev, w, E, as, _, q1, fun vs I1 H1 x1 r1 => ?_⟩
        have hd := r1.keepAll q2
        refine ⟨by rw [DpAll.len hd]; exact big_le hl, fun p hp => ?_⟩
        obtain ⟨x2, k2⟩ := dp_tupNew x1.w hd hp
        exact k _ _ _ (x1.trans x2) k2 trivial
      · cases q
    · cases q
theorem e_lst {pos} (h : PA X es (tAs X.kw fa)) : PE X (.List es pos) (tE X.kw (fLst fa)) := (pe_lst h).by fun σ H Q ⟨st, n, H0, I, ev, w, E, sv, n', q, k⟩ => by
  unfold fLst at q
  split at q
  · cases q
  · rename_i as n1 q1
    split at q
    · rename_i xs q2
      split at q
      · rename_i hl
        cases q
        refine ⟨st, n, H0, I, ev, w, E, as, _, q1, fun vs I1 H1 x1 r1 => ?_⟩
        have hd := r1.keepAll q2
        refine ⟨by rw [DpAll.len hd]; exact big_le hl, fun p hp => ?_⟩
        obtain ⟨x2, k2, k3⟩ := sv_cellNew x1.w hd hp
        exact k _ _ _ (x1.trans x2) k2 (Fr.back x1 k2 k3)
      · cases q
    · cases q
/-! ### a part -/
def FO := Ev → Nat → Option (Option Int × Nat)
def tOs (K : KW) (f : FO) : TO := fun σ H Q => ∃ st n H0 I e, Wr st n I H ∧ Er K st H0 I H σ e ∧ ∃ o n', f e n = some (o, n') ∧ ∀ I' H', Xt st n' I H I' H' → Q o H'
def oNone : FO := fun _ n => some (none, n)
def oSome (f : FE) : FO := fun e n => match f e n with
  | some (.d (.int i), n1) => some (some i, n1)
  | _ => none
theorem _root_.L2.PO.by {o : Option Expr} {t u : TO} (h : PO X o t) (k : ∀ σ H Q, u σ H Q → t σ H Q) : PO X o u := ⟨fun pins s σ H Q I q => h.run pins s σ H Q I (k σ H Q q)⟩
theorem o_none : PO X none (tOs X.kw oNone) := po_none.by fun σ H Q ⟨st, n, H0, I, ev, w, E, o, n', q, k⟩ => by
  cases q
  exact k I H (.refl w)
theorem o_some (h : PE X e (tE X.kw f)) : PO X (some e) (tOs X.kw (oSome f)) := (po_some h).by fun σ H Q ⟨st, n, H0, I, ev, w, E, o, n', q, k⟩ => by
  unfold oSome at q
  split at q
  · rename_i i n1 q1
    cases q
    refine ⟨st, n, H0, I, ev, w, E, _, _, q1, fun v I1 H1 x1 r1 _ => ?_⟩
    cases r1
    exact ⟨i, rfl, k I1 H1 x1⟩
  · cases q
def slD (a : PyData) (lo hi : Option Int) : Option Sv := match a with
  | .tuple xs => some (.d (.tuple (cutD xs lo hi)))
  | .list xs => some (.cell (cutD xs lo hi))
  | .str z => if z.length ≤ big then some (.d (.str (Txt.slice z lo hi))) else none
  | _ => none
def fSl (f : FE) (a b : FO) : FE := fun e n => match f e n with
  | none => none
  | some (s, n1) => match s with
    | .cell _ => none
    | s => match s.see with
      | none => none
      | some x => match a e n1 with
        | none => none
        | some (lo, n2) => match b e n2 with
          | none => none
          | some (hi, n3) => match slD x lo hi with
            | none => none
            | some r => some (r, n3)
def rSlAll (K : KW) : V → Option Int → Option Int → Hp → VK → Prop := fun x lo hi H Q => rSlA K x lo hi H Q ∨ (rSlL K x lo hi H Q ∨ C8.rSlX x lo hi H Q)
theorem sl_all : SlR X (rSlAll X.kw) := SlR.or sl_tupA (SlR.or sl_list C8.sl_txt)
theorem e_sl {lo hi : Option Expr} {a b : FO} {p2 pos : Pos} (h : PE X e (tE X.kw f)) (h1 : PO X lo (tOs X.kw a)) (h2 : PO X hi (tOs X.kw b)) : PE X (.Subscript e (.Slice lo hi none p2) pos) (tE X.kw (fSl f a b)) := (pe_slice sl_all h h1 h2).by fun σ H Q ⟨st, n, H0, I, ev, w, E, sv, n', q, k⟩ => by
  unfold fSl at q
  split at q
  · cases q
  · rename_i s n1 q1
    split at q
    · cases q
    · rename_i s' nc
      split at q
      · cases q
      · rename_i x q2
        split at q
        · cases q
        · rename_i lo' n2 q3
          split at q
          · cases q
          · rename_i hi' n3 q4
            split at q
            · cases q
            · rename_i r q5
              cases q
              refine ⟨st, n, H0, I, ev, w, E, _, _, q1, fun v I1 H1 x1 r1 _ => ⟨st, n1, H0, I1, ev, x1.w, E.mono x1, lo', n2, q3, fun I2 H2 x2 => ⟨st, n2, H0, I2, ev, x2.w, (E.mono x1).mono x2, hi', _, q4, fun I3 H3 x3 => ?_⟩⟩⟩
              have r3 := ((r1.mono x2).mono x3).see q2
              have xx := (x1.trans x2).trans x3
              unfold slD at q5
              split at q5
              · cases q5
                obtain ⟨p, vs, e1, t1, i1, d1⟩ := r3.tup x3.w.im
                refine .inl ⟨p, vs, e1, t1, fun hw => ?_, fun _ p' hp => ?_⟩
                · rename_i ds
                  have ec : cutD ds lo' hi' = ds := by
                    unfold cutD
                    rw [← DpAll.len d1, hw.1, hw.2, List.drop_zero, DpAll.len d1]
                    exact List.take_of_length_le (by omega)
                  rw [ec] at k
                  exact k _ I3 H3 xx (.tup i1 d1) trivial
                · obtain ⟨x4, k4⟩ := dp_tupNew x3.w (DpAll.cut d1 lo' hi') hp
                  exact k _ _ _ (xx.trans x4) k4 trivial
              · cases q5
                obtain ⟨p, vs, e1, t1, d1⟩ := r3.lst x3.w.im
                refine .inr (.inl ⟨p, vs, e1, t1, fun p' hp => ?_⟩)
                obtain ⟨x4, k4, k5⟩ := sv_cellNew x3.w (DpAll.cut d1 lo' hi') hp
                exact k _ _ _ (xx.trans x4) k4 (Fr.back xx k4 k5)
              · split at q5
                · rename_i z hz
                  cases q5
                  exact .inr (.inr ⟨z, r3.str, big_le hz, k _ I3 H3 xx (.str _) trivial⟩)
                · cases q5
              · cases q5
/-! ### calls -/
def fCall (np : Nat) (F : FF) (fa : FA) : FE := fun e n => match fa e n with
  | none => none
  | some (as, n1) => if as.length = np then F as n1 else none
theorem e_call {k : Nat} {fn : Addr} {fd : FuncData} {ps : List Str} {x : Str} {p pos : Pos} {np : Nat} {F : FF} (G : FnOk X.prog X.w X.K X.mg X.base CX0 k fn fd ps (spF X.kw np F)) (hr : Room k X.A) (hg : Gl X x) (hm : X.mg x = some (.ref fn)) (hk : PySem.W.keepIn X.K (.ref fn) = true) (hb : Binds X.K fd ps [])
    (ha : PA X (e :: es) (tAs X.kw fa)) (hdb : (x == ("__debug__" : Str)) = false := by decide) (he : starEach (e :: es) X.env = (false, eval e X.env) :: starEach es X.env := by rfl) (hpl : (backTo pos (starEach es X.env)).any (·.1) = false := by rfl) :
    PE X (.Call (.Name x p) (e :: es) [] pos) (tE X.kw (fCall np F fa)) := (pe_call G hr hg hm hk hb .nil pass0 ha hdb he hpl).by fun σ H Q ⟨st, n, H0, I, ev, w, E, sv, n', q, k⟩ => by
  unfold fCall at q
  split at q
  · cases q
  · rename_i as n1 q1
    split at q
    · rename_i hl
      refine ⟨st, n, H0, I, ev, w, E, as, n1, q1, fun vs I1 H1 x1 r1 => ?_⟩
      dsimp only
      rw [List.append_nil]
      exact ⟨by rw [r1.len]; exact hl, st, n1, I1, as, x1.w, r1, sv, n', q, fun v I2 H2 x2 r2 f2 => k v I2 H2 (x1.trans x2) r2 (Fr.back x1 r2 f2)⟩
    · cases q
/-- a rule for a built-in by what it is given -/
def CDo (K : KW) (r : List V → Hp → VK → Prop) (g : List Sv → Option Sv) : Prop := ∀ st n I H vs as sv (Q : VK), Wr st n I H → ArgsR K st I H vs as → g as = some sv → (∀ v I' H', Xt st n I H I' H' → SvR K st I' H' v sv → Fr H v sv → Q v H') → r vs H Q
def fBi (g : List Sv → Option Sv) (fa : FA) : FE := fun e n => match fa e n with
  | none => none
  | some (as, n1) => match g as with
    | none => none
    | some r => some (r, n1)
theorem t_cb {K : KW} {r g σ H} {Q : VK} (hd : CDo K r g) (h : tE K (fBi g fa) σ H Q) : tCB r (tAs K fa) σ H Q := by
  obtain ⟨st, n, H0, I, ev, w, E, sv, n', q, k⟩ := h
  unfold fBi at q
  split at q
  · cases q
  · rename_i as n1 q1
    split at q
    · cases q
    · rename_i rr q2
      cases q
      exact ⟨st, n, H0, I, ev, w, E, as, _, q1, fun vs I1 H1 x1 r1 => hd st _ I1 H1 vs as sv Q x1.w r1 q2 fun v I2 H2 x2 r2 f2 => k v I2 H2 (x1.trans x2) r2 (Fr.back x1 r2 f2)⟩
theorem e_bi {id : String} {r : List V → Hp → VK → Prop} {gg : List Sv → Option Sv} {x : Str} {p pos : Pos} (hc : CallR X (.builtin id) r) (hd : CDo X.kw r gg) (hg : Gl X x) (hm : X.mg x = none) (hv : bootBuiltins x = some (.builtin id)) (ha : PA X (e :: es) (tAs X.kw fa)) (hn : x ≠ "__name__" := by decide) (hdb : (x == ("__debug__" : Str)) = false := by decide)
    (he : starEach (e :: es) X.env = (false, eval e X.env) :: starEach es X.env := by rfl) (hpl : (backTo pos (starEach es X.env)).any (·.1) = false := by rfl) : PE X (.Call (.Name x p) (e :: es) [] pos) (tE X.kw (fBi gg fa)) :=
  (pe_callB hc hg hm hv ha hn hdb he hpl).by fun σ H Q h => t_cb hd h
theorem e_ty {T : String} {r : List V → Hp → VK → Prop} {gg : List Sv → Option Sv} {x : Str} {p pos : Pos} (hc : CallR X (.type T) r) (hd : CDo X.kw r gg) (hg : Gl X x) (hm : X.mg x = none) (hv : bootBuiltins x = some (.type T)) (ha : PA X (e :: es) (tAs X.kw fa)) (hn : x ≠ "__name__" := by decide) (hdb : (x == ("__debug__" : Str)) = false := by decide)
    (he : starEach (e :: es) X.env = (false, eval e X.env) :: starEach es X.env := by rfl) (hpl : (backTo pos (starEach es X.env)).any (·.1) = false := by rfl) : PE X (.Call (.Name x p) (e :: es) [] pos) (tE X.kw (fBi gg fa)) :=
  (pe_callTy hc hg hm hv ha hn hdb he hpl).by fun σ H Q h => t_cb hd h
end
/-- one argument, as it is seen -/
def see1 (g : PyData → Option Sv) : List Sv → Option Sv
  | [a] => match a.see with
    | some x => g x
    | none => none
  | _ => none
theorem see1_of {K : KW} {r} {g : PyData → Option Sv} (h : ∀ st n I H v x sv (Q : VK), Wr st n I H → See K I H v x → g x = some sv → (∀ v I' H', Xt st n I H I' H' → SvR K st I' H' v sv → Fr H v sv → Q v H') → r [v] H Q) : CDo K r (see1 g) := by
  intro st n I H vs as sv Q w ra e k
  cases ra with
  | nil => cases e
  | cons h1 h2 h3 =>
    rename_i v vs' a as'
    cases h3 with
    | nil =>
      unfold see1 at e
      cases q : a.see with
      | none => simp only [q] at e; cases e
      | some x =>
        simp only [q] at e
        exact h st n I H v x sv Q w (h1.see q) e k
    | cons _ _ _ => cases e
/-! len -/
def lenG (x : PyData) : Option Sv := match x with
  | .list xs => some (.d (.int xs.length))
  | .tuple xs => some (.d (.int xs.length))
  | .str z => if z.length ≤ big then some (.d (.int z.length)) else none
  | _ => none
def rLenA (K : KW) : List V → Hp → VK → Prop := fun xs H Q => (∃ p ys, xs = [.ref p] ∧ (SqL K H p ys ∨ SqT K H p ys) ∧ Q (.int ys.length) H) ∨ ∃ z, xs = [.str z] ∧ z.length ≤ sizeLine ∧ Q (.int z.length) H
section
variable {X : Cx} {K : KW}
theorem call_lenA : CallR X (.builtin "len") (rLenA X.kw) := fun pins s σ H xs us Q I r h => by
  rcases h with h | h
  · exact call_len_seq pins s σ H xs us Q I r h
  · exact call_len_str pins s σ H xs us Q I r h
theorem cd_lenA : CDo K (rLenA K) (see1 lenG) := see1_of fun st n I H v x sv Q w hs e k => by
  unfold lenG at e
  split at e
  · cases e
    obtain ⟨p, vs, e1, h1, h2⟩ := hs.lst w.im
    exact .inl ⟨p, vs, by rw [e1], .inl h1, by rw [DpAll.len h2]; exact k _ I H (.refl w) (.int _) trivial⟩
  · cases e
    obtain ⟨p, vs, e1, h1, _, h2⟩ := hs.tup w.im
    exact .inl ⟨p, vs, by rw [e1], .inr h1, by rw [DpAll.len h2]; exact k _ I H (.refl w) (.int _) trivial⟩
  · split at e
    · rename_i z hz
      cases e
      exact .inr ⟨z, by rw [hs.str], big_le hz, k _ I H (.refl w) (.int _) trivial⟩
    · cases e
  · cases e
/-! tuple, list -/
def tupG (x : PyData) : Option Sv := match x with
  | .list xs => some (.d (.tuple xs))
  | .tuple xs => some (.d (.tuple xs))
  | _ => none
def lstG (x : PyData) : Option Sv := match x with
  | .list xs => some (.cell xs)
  | .tuple xs => some (.cell xs)
  | _ => none
theorem cd_tup : CDo K (fun xs H Q => ∃ p ys, xs = [.ref p] ∧ ((SqL K H p ys ∧ ∀ l, H l = none → Q (.ref l) (upd H l (.tup ys))) ∨ (SqT K H p ys ∧ Q (.ref p) H))) (see1 tupG) := see1_of fun st n I H v x sv Q w hs e k => by
  unfold tupG at e
  split at e
  · cases e
    obtain ⟨p, vs, e1, h1, h2⟩ := hs.lst w.im
    refine ⟨p, vs, by rw [e1], .inl ⟨h1, fun l hl => ?_⟩⟩
    obtain ⟨x4, k4⟩ := dp_tupNew w h2 hl
    exact k _ _ _ x4 k4 trivial
  · cases e
    obtain ⟨p, vs, e1, h1, i1, h2⟩ := hs.tup w.im
    exact ⟨p, vs, by rw [e1], .inr ⟨h1, k _ I H (.refl w) (.tup i1 h2) trivial⟩⟩
  · cases e
theorem cd_lst : CDo K (fun xs H Q => ∃ p ys, xs = [.ref p] ∧ (SqL K H p ys ∨ SqT K H p ys) ∧ ∀ l, H l = none → Q (.ref l) (upd H l (.lst ys))) (see1 lstG) := see1_of fun st n I H v x sv Q w hs e k => by
  unfold lstG at e
  split at e
  · cases e
    obtain ⟨p, vs, e1, h1, h2⟩ := hs.lst w.im
    refine ⟨p, vs, by rw [e1], .inl h1, fun l hl => ?_⟩
    obtain ⟨x4, k4, k5⟩ := sv_cellNew w h2 hl
    exact k _ _ _ x4 k4 k5
  · cases e
    obtain ⟨p, vs, e1, h1, i1, h2⟩ := hs.tup w.im
    refine ⟨p, vs, by rw [e1], .inr h1, fun l hl => ?_⟩
    obtain ⟨x4, k4, k5⟩ := sv_cellNew w h2 hl
    exact k _ _ _ x4 k4 k5
  · cases e
/-! any, all -/
def bools : List PyData → Option (List Bool)
  | [] => some []
  | .bool b :: r => match bools r with
    | some bs => some (b :: bs)
    | none => none
  | _ :: _ => none
theorem bools_of : ∀ {xs : List PyData} {bs : List Bool}, bools xs = some bs → xs = bs.map PyData.bool
  | [], bs, h => by cases h; rfl
  | x :: r, bs, h => by
    cases x with
    | bool b =>
      unfold bools at h
      cases q : bools r with
      | none => simp only [q] at h; cases h
      | some cs => simp only [q] at h; cases h; rw [List.map_cons, bools_of q]
    | _ => cases h
def anyG (x : PyData) : Option Sv := match x with
  | .list xs => match bools xs with
    | some bs => some (.d (.bool (bs.any id)))
    | none => none
  | _ => none
def allG (x : PyData) : Option Sv := match x with
  | .list xs => match bools xs with
    | some bs => some (.d (.bool (bs.all id)))
    | none => none
  | _ => none
theorem cd_anyA : CDo K (rAny K) (see1 anyG) := see1_of fun st n I H v x sv Q w hs e k => by
  unfold anyG at e
  split at e
  · split at e
    · rename_i xs bs q
      cases e
      obtain ⟨p, vs, e1, h1, h2⟩ := hs.lst w.im
      rw [bools_of q] at h2
      exact ⟨p, bs, by rw [e1], by rw [← bls_of h2]; exact h1, k _ I H (.refl w) (.bl _) trivial⟩
    · cases e
  · cases e
/-! sum, min, max of ints -/
def intsD : List PyData → Option (List Int)
  | [] => some []
  | .int b :: r => match intsD r with
    | some bs => some (b :: bs)
    | none => none
  | _ :: _ => none
theorem intsD_of : ∀ {xs : List PyData} {bs : List Int}, intsD xs = some bs → xs = bs.map PyData.int
  | [], bs, h => by cases h; rfl
  | x :: r, bs, h => by
    cases x with
    | int b =>
      unfold intsD at h
      cases q : intsD r with
      | none => simp only [q] at h; cases h
      | some cs => simp only [q] at h; cases h; rw [List.map_cons, intsD_of q]
    | _ => cases h
theorem ints_vs {I : Hp} : ∀ {bs : List Int} {vs : List V}, DpAll K I vs (bs.map PyData.int) → vs = bs.map V.int
  | [], _, h => by cases h; rfl
  | b :: bs, _, h => by
    cases h with
    | cons h1 h2 =>
      cases h1
      rw [ints_vs h2]
      rfl
def sumG (x : PyData) : Option Sv := match x with
  | .list xs => match intsD xs with
    | some bs => some (.d (.int bs.sum))
    | none => none
  | _ => none
theorem cd_sum : CDo K (rSum K) (see1 sumG) := see1_of fun st n I H v x sv Q w hs e k => by
  unfold sumG at e
  split at e
  · split at e
    · rename_i xs bs q
      cases e
      obtain ⟨p, vs, e1, h1, h2⟩ := hs.lst w.im
      rw [intsD_of q] at h2
      exact ⟨p, bs, by rw [e1], by rw [← ints_vs h2]; exact h1, k _ I H (.refl w) (.int _) trivial⟩
    · cases e
  · cases e
def leastI : List Int → Option Int
  | [] => none
  | x :: r => some (r.foldl min x)
theorem foldl_min_le : ∀ (r : List Int) (x : Int), r.foldl min x ≤ x ∧ ∀ y ∈ r, r.foldl min x ≤ y
  | [], x => ⟨Int.le_refl _, fun _ h => by cases h⟩
  | z :: r, x => by
    obtain ⟨h1, h2⟩ := foldl_min_le r (min x z)
    refine ⟨Int.le_trans h1 (Int.min_le_left _ _), fun y hy => ?_⟩
    rcases List.mem_cons.mp hy with e | e
    · subst e; exact Int.le_trans h1 (Int.min_le_right _ _)
    · exact h2 y e
theorem foldl_min_mem : ∀ (r : List Int) (x : Int), r.foldl min x = x ∨ r.foldl min x ∈ r
  | [], x => .inl rfl
  | z :: r, x => by
    rcases foldl_min_mem r (min x z) with h | h
    · by_cases hz : x ≤ z
      · rw [List.foldl_cons, h, Int.min_eq_left hz]; exact .inl rfl
      · rw [List.foldl_cons, h, Int.min_eq_right (by omega)]; exact .inr List.mem_cons_self
    · exact .inr (List.mem_cons_of_mem _ h)
def minG (x : PyData) : Option Sv := match x with
  | .list xs => match intsD xs with
    | some bs => match leastI bs with
      | some m => some (.d (.int m))
      | none => none
    | none => none
  | _ => none
theorem cd_minL : CDo K (rMin K) (see1 minG) := see1_of fun st n I H v x sv Q w hs e k => by
  unfold minG at e
  split at e
  · split at e
    · split at e
      · rename_i xs _ bs q _ m hm
        cases e
        obtain ⟨p, vs, e1, h1, h2⟩ := hs.lst w.im
        rw [intsD_of q] at h2
        cases bs with
        | nil => cases hm
        | cons b r =>
          have hm' : r.foldl min b = m := Option.some.inj hm
          refine ⟨p, b :: r, by rw [e1], by rw [← ints_vs h2]; exact h1, Nat.succ_pos _, fun m' h3 h4 => ?_⟩
          obtain ⟨l1, l2⟩ := foldl_min_le r b
          have le1 : m ≤ m' := by
            rw [← hm']
            rcases List.mem_cons.mp h3 with z | z
            · rw [z]; exact l1
            · exact l2 m' z
          have le2 : m' ≤ m := by
            rw [← hm']
            rcases foldl_min_mem r b with z | z
            · rw [z]; exact h4 b List.mem_cons_self
            · exact h4 _ (List.mem_cons_of_mem _ z)
          have : m' = m := Int.le_antisymm le2 le1
          rw [this]
          exact k _ I H (.refl w) (.int _) trivial
      · cases e
    · cases e
  · cases e
/-! min(a, b) -/
def min2G : List Sv → Option Sv
  | [.d (.int i), .d (.int j)] => some (.d (.int (if j < i then j else i)))
  | _ => none
theorem cd_min2 : CDo K (fun xs H Q => ∃ i j, xs = [.int i, .int j] ∧ Q (.int (if j < i then j else i)) H) min2G := by
  intro st n I H vs as sv Q w ra e k
  unfold min2G at e
  split at e
  · rename_i i j
    cases e
    cases ra with
    | cons h1 _ h3 =>
      cases h3 with
      | cons h4 _ h5 =>
        cases h5
        cases h1
        cases h4
        exact ⟨_, _, rfl, k _ I H (.refl w) (.int _) trivial⟩
  · cases e
def rMinA (K : KW) : List V → Hp → VK → Prop := fun xs H Q => (∃ i j, xs = [.int i, .int j] ∧ Q (.int (if j < i then j else i)) H) ∨ rMin K xs H Q
theorem call_minA (hc : X.calm = true) : CallR X (.builtin "min") (rMinA X.kw) := fun pins s σ H xs us Q I r h => by
  rcases h with h | h
  · exact call_min2 hc pins s σ H xs us Q I r h
  · exact cr_min hc pins s σ H xs us Q I r h
def minAG (as : List Sv) : Option Sv := match as with
  | [_, _] => min2G as
  | _ => see1 minG as
theorem cd_minA : CDo K (rMinA K) minAG := by
  intro st n I H vs as sv Q w ra e k
  unfold minAG at e
  split at e
  · exact .inl (cd_min2 st n I H vs _ sv Q w ra e k)
  · exact .inr (cd_minL st n I H vs _ sv Q w ra e k)
/-! sorted -/
def sortOk (ds : List PyData) : Bool := ds.all (fun d => ds.all fun e => PySem.W.alike d e) && (ds.all isT || ds.all (fun d => match d with
    | .none => false
    | .tuple _ => false
    | _ => true)) && ds.all (fun d => decide (d.depth ≤ 60)) && decide (ds.length ≤ big)
theorem sortOk_of {ds : List PyData} (h : sortOk ds = true) : PySem.W.AllAlike ds ∧ Sortable2 ds ∧ (∀ d ∈ ds, d.depth ≤ 60) ∧ ds.length ≤ big := by
  unfold sortOk at h
  simp only [Bool.and_eq_true, List.all_eq_true, Bool.or_eq_true, decide_eq_true_eq] at h
  obtain ⟨⟨⟨h1, h2⟩, h3⟩, h4⟩ := h
  refine ⟨fun d hd e he => h1 d hd e he, ?_, h3, h4⟩
  rcases h2 with h2 | h2
  · exact .inr h2
  · refine .inl (.inr fun d hd => ?_)
    have q := h2 d hd
    split at q
    · cases q
    · cases q
    · rename_i q1 q2
      exact ⟨q1, q2⟩
def sortD (ds : List PyData) : List PyData := ds.mergeSort (PySem.W.dataLe false id)
end
end Sb
/-! P3: sorted of a list, a tuple, a text. -/
namespace Sb
open PySem PySem.Spec PyProof.Rows L2
section
variable {P : Program} {w : World} {A : Around} {E : Value → Shared → Prop} {s : Shared}
abbrev RelZ (v : Value) (b : V × PyData) : Prop := RelV b.1 v
theorem sortedC {Q : Value → Shared → Prop} {x : Value} {zs : List (V × PyData)}
    (col : ∀ Q' : List Value → Shared → Prop, (∀ s1 us, (∀ b o, s.heap.get? b = some o → s1.heap.get? b = some o) → s1.gens = s.gens → s1.os = s.os → PySem.W.EachIs RelZ us zs → PySem.W.EachIs (fun v b => ∃ as, Reads s1.heap v b.2 as) us zs → Q' us s1) → wpAny (model P w) A.in1 (collect x) Q' E s)
    (hal : PySem.W.AllAlike (zs.map Prod.snd)) (hk : Sortable2 (zs.map Prod.snd)) (hL : zs.length ≤ sizeLine) (hu : ∀ b ∈ zs, A.units + 2 + b.2.depth < cLine)
    (q : ∀ s' p (out : Array Value) (c : Nat), (∀ b o, s.heap.get? b = some o → s'.heap.get? b = some o) → s'.gens = s.gens → s'.os = s.os → s.heap.get? p = none → s'.heap.get? p = some (seqObj "list" out c) →
      Vals ((zs.mergeSort (PySem.W.dataLe false Prod.snd)).map Prod.fst) out.toList → Q (.ref p) s') : wpAny (model P w) A (call (.builtin "sorted") [x]) Q E s := by
  refine Calls.call_function_entry kind_sorted plain_sorted entry_sorted (args_sorted1 _) ?_
  unfold Builtin.«sorted»
  refine wpAny_bind (m := checkCount "sorted" 1 1 _) (wpAny_pure (wpAny_bind ?_))
  refine col _ fun s1 us z1 z2 z3 e1 e2 => ?_
  have hl : us.length = zs.length := e1.length
  refine wpAny_bind (wpAny_newList ?_ (by rw [hl]; exact hL))
  have ho : (s1.heap.push (seqObj "list" us.toArray 0)).get? s1.heap.objs.size = some (seqObj "list" us.toArray 0) := Heap.get?_push_size _ rfl
  have old : ∀ b o, s1.heap.get? b = some o → (PySem.W.sortingHeap (s1.heap.push (seqObj "list" us.toArray 0)) s1.heap.objs.size us).get? b = some o := fun b o h =>
    PySem.W.sortingHeap_old (Nat.ne_of_lt (Heap.lt_size h)) (Heap.get?_push_of_some _ h)
  have er : PySem.W.EachIs (fun v (b : V × PyData) => ∃ as, Reads (PySem.W.sortingHeap (s1.heap.push (seqObj "list" us.toArray 0)) s1.heap.objs.size us) v b.2 as) us zs :=
    e2.mono fun _ _ ⟨as, r⟩ => ⟨as, PyProof.Rows.Reads.keeps (fun _ _ h => old _ _ h) r⟩
  have hu2 : ∀ d, d ∈ zs.map Prod.snd → (A.units + 2) + d.depth < cLine := fun d hd => by
    obtain ⟨b, hb, rfl⟩ := List.mem_map.mp hd
    exact hu b hb
  refine wpAny_bind (wpAny_holding (wpAny_call_entry_kw slot_list_sort ⟨_, ho, rfl⟩ entry_list_sort ?sb_body (args_list_sort _)))
  case sb_body =>
    refine PySem.W.list_sort_vals (s := { s1 with heap := s1.heap.push (seqObj "list" us.toArray 0) }) ho (sorts2 (s := { s1 with heap := PySem.W.sortingHeap (s1.heap.push (seqObj "list" us.toArray 0)) s1.heap.objs.size us }) (PySem.W.each_map (R := fun v d => ∃ as, Reads (PySem.W.sortingHeap (s1.heap.push (seqObj "list" us.toArray 0)) s1.heap.objs.size us) v d as) Prod.snd er) hal hk ?_) (by rw [hl]; exact hL) ?_
    · exact hu2
    · refine ⟨_, rfl, wpAny_pure ⟨_, rfl, ?_⟩⟩
      have ev := PySem.W.sortVals_data false e1 er hal
      obtain ⟨c, hc⟩ := sortedHeap_at (vs := us) (out := (PySem.W.sortVals (PySem.W.dataKind (PySem.W.sortingHeap (s1.heap.push (seqObj "list" us.toArray 0)) s1.heap.objs.size us) (zs.map Prod.snd)) false us us).toArray) ho
      refine q _ s1.heap.objs.size _ c (fun b u e => ?_) z2 z3 ?_ hc (vals_each ev)
      · have e1 := z1 b u e
        have lt := Heap.lt_size e1
        refine (sortedHeap_old (Nat.ne_of_lt lt) ?_).trans (Heap.get?_push_of_some _ e1)
        rw [size_push']
        exact Nat.lt_succ_of_lt lt
      · cases hs : s.heap.get? s1.heap.objs.size with
        | none => rfl
        | some o => exact absurd (Heap.lt_size (z1 _ _ hs)) (Nat.lt_irrefl _)
end
section
variable {K : KW}
theorem dpAll_zip {I : Hp} : ∀ {zs : List (V × PyData)}, (∀ z ∈ zs, Dp K I z.1 z.2) → DpAll K I (zs.map Prod.fst) (zs.map Prod.snd)
  | [], _ => .nil
  | z :: zs, h => .cons (h z List.mem_cons_self) (dpAll_zip fun y hy => h y (List.mem_cons_of_mem _ hy))
theorem zip_dp {I : Hp} : ∀ {vs : List V} {ds : List PyData}, DpAll K I vs ds → ∀ z ∈ vs.zip ds, Dp K I z.1 z.2
  | [], _, h, z, hz => by cases h; cases hz
  | _ :: _, _, h, z, hz => by
    cases h with
    | cons h1 h2 =>
      rcases List.mem_cons.mp hz with e | e
      · subst e; exact h1
      · exact zip_dp h2 z e
theorem sort_zip {I : Hp} {vs : List V} {ds : List PyData} (h : DpAll K I vs ds) : DpAll K I (((vs.zip ds).mergeSort (PySem.W.dataLe false Prod.snd)).map Prod.fst) (sortD ds) := by
  have e : sortD ds = ((vs.zip ds).mergeSort (PySem.W.dataLe false Prod.snd)).map Prod.snd := by
    rw [List.map_mergeSort (r := PySem.W.dataLe false Prod.snd) (s := PySem.W.dataLe false id) (f := Prod.snd) (l := vs.zip ds) (fun a _ b _ => rfl), snd_zip (DpAll.len h)]
    rfl
  rw [e]
  exact dpAll_zip fun z hz => zip_dp h z (List.mem_mergeSort.mp hz)
end
section
variable {X : Cx}
/-- sorted of a list, a tuple -/
def rSortS (K : KW) : List V → Hp → VK → Prop := fun vs H Q => ∃ (a : Addr) (xs : List V) (ds : List PyData), vs = [.ref a] ∧ (SqL K H a xs ∨ SqT K H a xs) ∧ DpAll K H xs ds ∧ sortOk ds = true ∧
  ∀ p, H p = none → Q (.ref p) (upd H p (.lst (((xs.zip ds).mergeSort (PySem.W.dataLe false Prod.snd)).map Prod.fst)))
theorem cr_sortS (hu : X.A.units + 64 < cLine) : CallR X (.builtin "sorted") (rSortS X.kw) := by
  intro pins s σ H vs us Q I r ⟨a, xs, ds, e, hs, hd, ok, q⟩
  subst e
  obtain ⟨hal, hk, hdp, hlen⟩ := sortOk_of ok
  have el : xs.length = ds.length := DpAll.len hd
  have ez : (xs.zip ds).map Prod.snd = ds := snd_zip el
  have hl2 : (xs.zip ds).length = ds.length := by rw [List.length_zip, el, Nat.min_self]
  rw [Vals.ref1 r]
  refine sortedC (zs := xs.zip ds) (fun Q' k => ?_) (by rw [ez]; exact hal) (by rw [ez]; exact hk) (by rw [hl2]; exact big_le hlen) (fun b hb => ?_) fun s' p out c z1 z2 z3 z4 z5 z6 => ?_
  · rcases hs with hs | hs
    · obtain ⟨its, rv, ⟨o, n, ho, hc, _, hdt⟩, hz⟩ := I.list hs
      have hz' : its.length ≤ sizeLine := by rw [← rv.length]; exact hz
      refine wpAny_collect_seq a (.inl rfl) ho hc hdt (fun h' hk => ?_) (by simpa using hz')
      exact k _ _ hk rfl rfl (each_rel rv el) ((each_reads I rv hd).mono fun _ _ ⟨as, z⟩ => ⟨as, PyProof.Rows.Reads.keeps (fun _ _ y => hk _ _ y) z⟩)
    · obtain ⟨its, rv, ⟨o, ho, hc, n, hdt⟩, hz⟩ := I.tuple hs
      have hz' : its.length ≤ sizeLine := by rw [← rv.length]; exact hz
      refine wpAny_collect_seq a (.inr rfl) ho hc hdt (fun h' hk => ?_) (by simpa using hz')
      exact k _ _ hk rfl rfl (each_rel rv el) ((each_reads I rv hd).mono fun _ _ ⟨as, z⟩ => ⟨as, PyProof.Rows.Reads.keeps (fun _ _ y => hk _ _ y) z⟩)
  · have := hdp b.2 (by rw [← ez]; exact List.mem_map_of_mem hb)
    omega
  · have hn := I.hok.gone z4
    have len : (((xs.zip ds).mergeSort (PySem.W.dataLe false Prod.snd)).map Prod.fst).length ≤ sizeLine := by
      rw [List.length_map, List.length_mergeSort, hl2]
      exact big_le hlen
    have J : Inv X pins σ (upd H p (.lst (((xs.zip ds).mergeSort (PySem.W.dataLe false Prod.snd)).map Prod.fst))) { s with heap := s'.heap, gens := s'.gens, drawn := s'.drawn, toks := s'.toks } :=
      I.call (ch := []) (Un.laidN z1 z4 hn) (I.hok.laidN z1 hn ⟨len, out.toList, c, z6, z5⟩) (by rw [z2]; exact I.bare) nofun
    have es' : s' = { s with heap := s'.heap, gens := s'.gens, drawn := s'.drawn, toks := s'.toks } := by
      cases s
      cases s'
      cases z3
      rfl
    rw [es']
    exact ⟨.ref p, _, J, rfl, q p hn⟩
/-! sorted of a text -/
def signs (z : Str) : List Str := z.cps.toList.map fun c => ⟨#[c]⟩
def rSortZ : List V → Hp → VK → Prop := fun vs H Q => ∃ z, vs = [.str z] ∧ z.length ≤ big ∧ ∀ p, H p = none → Q (.ref p) (upd H p (.lst (((signs z).mergeSort fun a b => !PySem.W.dataLt (.str b) (.str a)).map V.str)))
theorem cr_sortZ (hc : X.calm = true) (hu : X.A.units + 64 < cLine) : CallR X (.builtin "sorted") rSortZ := by
  intro pins s σ H vs us Q I r ⟨z, e, hz, q⟩
  subst e
  cases r with
  | cons r0 rr =>
    cases rr
    obtain ⟨t, rfl⟩ := r0
    have e1 : ((signs z).map fun c => (V.str c, PyData.str c)).map Prod.snd = (signs z).map PyData.str := by rw [List.map_map]; rfl
    have hlz : (signs z).length = z.cps.size := by unfold signs; rw [List.length_map, Array.length_toList]
    have hlen : (signs z).length ≤ sizeLine := by rw [hlz]; exact big_le hz
    refine sortedC (zs := (signs z).map fun c => (V.str c, PyData.str c)) (fun Q' k => ?_) ?_ ?_ (by rw [List.length_map]; exact hlen) (fun b hb => ?_) fun s' p out c z1 z2 z3 z4 z5 z6 => ?_
    · refine wpAny_collect_str (A := X.A.in1) (I.ok.hd hc) z t (fun s1 acc k1 k2 k3 k4 its => ?_) (big_le hz)
      have ev : ∀ (cs : List Nat) (j : Nat) (us : List Value), us.length = cs.length → (∀ (i : Nat) (v : Value), us[i]? = some v → ∃ c u, cs[i]? = some c ∧ v = Value.str ⟨#[c]⟩ u) →
          PySem.W.EachIs (fun v (b : V × PyData) => ∃ c u, v = Value.str ⟨#[c]⟩ u ∧ b = (V.str ⟨#[c]⟩, PyData.str ⟨#[c]⟩)) us ((cs.map fun c => (⟨#[c]⟩ : Str)).map fun c => (V.str c, PyData.str c)) := by
        intro cs
        induction cs with
        | nil =>
          intro j us hl _
          cases us with
          | nil => exact .nil
          | cons _ _ => cases hl
        | cons c cs ih =>
          intro j us hl hv
          cases us with
          | nil => cases hl
          | cons u us =>
            obtain ⟨c', t', h1, h2⟩ := hv 0 u rfl
            cases h1
            exact .cons ⟨_, _, h2, rfl⟩ (ih (j + 1) us (by simpa using hl) fun i v h => by simpa using hv (i + 1) v (by simpa using h))
      have all := ev z.cps.toList 0 acc.toList (by rw [Array.length_toList, Array.length_toList]; exact its.1) (fun i v h => by
        obtain ⟨c, u, h1, h2⟩ := its.2 i v (by simpa using h)
        exact ⟨c, u, by simpa using h1, h2⟩)
      refine k _ _ k1 k2 k4 (all.mono fun v b ⟨c, u, e1, e2⟩ => ?_) (all.mono fun v b ⟨c, u, e1, e2⟩ => ?_)
      · subst e1 e2
        exact ⟨_, rfl⟩
      · subst e1 e2
        exact ⟨_, Reads.str _ _⟩
    · rw [e1]
      intro d hd d' hd'
      obtain ⟨c, _, rfl⟩ := List.mem_map.mp hd
      obtain ⟨c', _, rfl⟩ := List.mem_map.mp hd'
      rfl
    · rw [e1]
      refine .inl (.inr fun d hd => ?_)
      obtain ⟨c, _, rfl⟩ := List.mem_map.mp hd
      exact ⟨nofun, nofun⟩
    · obtain ⟨c, _, rfl⟩ := List.mem_map.mp hb
      show X.A.units + 2 + 0 < cLine
      omega
    · have hn := I.hok.gone z4
      have es : (((signs z).map fun c => (V.str c, PyData.str c)).mergeSort (PySem.W.dataLe false Prod.snd)).map Prod.fst = ((signs z).mergeSort fun a b => !PySem.W.dataLt (.str b) (.str a)).map V.str := by
        rw [← List.map_mergeSort (r := fun a b => !PySem.W.dataLt (.str b) (.str a)) (s := PySem.W.dataLe false Prod.snd) (f := fun c => (V.str c, PyData.str c)) (l := signs z) (fun a _ b _ => rfl), List.map_map]
        rfl
      rw [es] at z6
      have len : (((signs z).mergeSort fun a b => !PySem.W.dataLt (.str b) (.str a)).map V.str).length ≤ sizeLine := by
        rw [List.length_map, List.length_mergeSort]
        exact hlen
      have J : Inv X pins σ (upd H p (.lst (((signs z).mergeSort fun a b => !PySem.W.dataLt (.str b) (.str a)).map V.str))) { s with heap := s'.heap, gens := s'.gens, drawn := s'.drawn, toks := s'.toks } :=
        I.call (ch := []) (Un.laidN z1 z4 hn) (I.hok.laidN z1 hn ⟨len, out.toList, c, z6, z5⟩) (by rw [z2]; exact I.bare) nofun
      have es' : s' = { s with heap := s'.heap, gens := s'.gens, drawn := s'.drawn, toks := s'.toks } := by
        cases s
        cases s'
        cases z3
        rfl
      rw [es']
      exact ⟨.ref p, _, J, rfl, q p hn⟩
def rSortAll (K : KW) : List V → Hp → VK → Prop := fun vs H Q => rSortS K vs H Q ∨ rSortZ vs H Q
theorem cr_sortAll (hc : X.calm = true) (hu : X.A.units + 64 < cLine) : CallR X (.builtin "sorted") (rSortAll X.kw) := fun pins s σ H xs us Q I r h => by
  rcases h with h | h
  · exact cr_sortS hu pins s σ H xs us Q I r h
  · exact cr_sortZ hc hu pins s σ H xs us Q I r h
def sortZ (z : Str) : List Str := (signs z).mergeSort fun a b => !PySem.W.dataLt (.str b) (.str a)
def sortG (x : PyData) : Option Sv := match x with
  | .list xs => if sortOk xs = true then some (.cell (sortD xs)) else none
  | .tuple xs => if sortOk xs = true then some (.cell (sortD xs)) else none
  | .str z => if z.length ≤ big then some (.cell ((sortZ z).map PyData.str)) else none
  | _ => none
theorem DpAll.strs' {K : KW} {H : Hp} : ∀ ns : List Str, DpAll K H (ns.map V.str) (ns.map PyData.str)
  | [] => .nil
  | n :: ns => .cons (.str n) (DpAll.strs' ns)
theorem cd_sortAll {K : KW} : CDo K (rSortAll K) (see1 sortG) := see1_of fun st n I H v x sv Q w hs e k => by
  unfold sortG at e
  split at e
  · split at e
    · rename_i xs ok
      cases e
      obtain ⟨p, vs, e1, h1, h2⟩ := hs.lst w.im
      refine .inl ⟨p, vs, xs, by rw [e1], .inl h1, DpAll.mono w.im.sub _ _ h2, ok, fun p' hp => ?_⟩
      obtain ⟨x4, k4, k5⟩ := sv_cellNew w (sort_zip h2) hp
      exact k _ _ _ x4 k4 k5
    · cases e
  · split at e
    · rename_i xs ok
      cases e
      obtain ⟨p, vs, e1, h1, _, h2⟩ := hs.tup w.im
      refine .inl ⟨p, vs, xs, by rw [e1], .inr h1, DpAll.mono w.im.sub _ _ h2, ok, fun p' hp => ?_⟩
      obtain ⟨x4, k4, k5⟩ := sv_cellNew w (sort_zip h2) hp
      exact k _ _ _ x4 k4 k5
    · cases e
  · split at e
    · rename_i z hz
      cases e
      refine .inr ⟨z, by rw [hs.str], hz, fun p' hp => ?_⟩
      obtain ⟨x4, k4, k5⟩ := sv_cellNew w (DpAll.strs' (sortZ z)) hp
      exact k _ _ _ x4 k4 k5
    · cases e
  · cases e
end
end Sb
/-! P4e: enumerate(a tuple). -/
namespace Sb
open PySem PySem.Spec PyProof.Rows L2
abbrev enumO (i : Addr) : Obj := { cls := .type "enumerate", data := .fields #[.none, .bool false, .ref i, rawInt 0, .none, .none] }
abbrev titO (a : Addr) : Obj := { cls := .type "tuple_iterator", data := .fields #[.ref a, .int 0 0] }
theorem enumT_made (a : Addr) (zs : Array Value) : Meets (Builtin.«enumerate.__new__» ⟨[.type "enumerate", .ref a], []⟩)
    (fun _ R s => s.heap.IsTuple a zs ∧ R (.ok (.ret (.ref (s.heap.push (titO a)).objs.size))) { s with heap := (s.heap.push (titO a)).push (enumO s.heap.objs.size) }) :=
  .of_wp fun P w A R s z => by
    obtain ⟨H, c1, c2, c3, c4⟩ := s
    obtain ⟨z1, z2⟩ := z
    have f1 := sub_enumerate
    have it : ∀ {B : Around} {E Q : Value → Shared → Prop}, Q (.ref H.objs.size) ⟨H.push (titO a), c1, c2, c3, c4⟩ → wpAny (model P w) B (pyIter (.ref a)) Q E ⟨H, c1, c2, c3, c4⟩ := fun q => wpAny_pyIter_tuple z1 q
    wp_walk using it
    refine wpAny_stack_any fun _ => wpAny_pure ?_
    split
    · rename_i c _ _ _ _ _
      cases (c == Value.type "enumerate") <;> (wp_walk using it; exact ⟨_, rfl, z2⟩)
    · wp_walk using it
      exact ⟨_, rfl, z2⟩
/-- the tuple at a, each item in a new pair with its place -/
def IteT (K : PySem.W.Frag) (a : Addr) : It :=
  ⟨fun i H => ∃ (zs : List V) (z : V), SqT K H a zs ∧ zs[i]? = some z, fun i H v G => ∃ T z, v = .ref T ∧ H T = none ∧ G = upd H T (.tup [.int (i : Nat), z]) ∧ ∀ zs, SqT K H a zs → zs[i]? = some z, fun i H => ∃ zs : List V, SqT K H a zs ∧ zs.length = i⟩
section
variable {P : Program} {w : World} {K : PySem.W.Frag} {elts : List Expr} {kk : Nat} {tpos : Pos}
theorem turn_enumT (a e it : Addr) : Turn P w K (.Tuple elts kk tpos) (IteT K a) [e, it] e
    (fun i h => (∃ old, IsEnum h e it ((i : Nat) : Int) old) ∧ h.IsTupleIter it a i ∧ e ≠ it) := by
  have two : ∀ {b : Addr}, b ∈ [e, it] → b = e ∨ b = it := fun hb => by simpa using hb
  have apart : ∀ {h : Heap} {zs : Array Value} {i : Nat} {old : Value}, h.IsTuple a zs → IsEnum h e it i old → h.IsTupleIter it a i → a ≠ it ∧ a ≠ e := by
    intro h zs i old ⟨o, g1, g2, _⟩ g3 ⟨o', g4, g5, _⟩
    refine ⟨fun z => ?_, fun z => ?_⟩
    · rw [z, g4] at g1
      cases g1
      rw [g2] at g5
      exact absurd (Value.type.inj g5) (by decide)
    · rw [z, g3] at g1
      rw [← Option.some.inj g1] at g2
      exact absurd (Value.type.inj g2) (by decide)
  refine { mem := List.mem_cons_self, obj := ?_, keep := ?_, item := ?_, done := ?_, self := fun _ _ _ _ _ x h => by obtain ⟨⟨_, y⟩, _⟩ := x; exact wpAny_pyIter_enum y h }
  · rintro i h ⟨⟨old, g⟩, ⟨o, g1, g2, g3⟩, _⟩ b hb
    rcases two hb with z | z <;> subst z
    · exact ⟨_, g, nofun⟩
    · exact ⟨o, g1, fun v q => by rw [g3] at q; cases q⟩
  · rintro i h h' ⟨⟨old, g⟩, g1, g2⟩ k
    exact ⟨⟨old, k e (by simp) _ g⟩, g1.at fun o q => k it (by simp) o q, g2⟩
  · intro X hP hw hK hc i pins s σ H E I hf st hg
    subst hP hw hK
    obtain ⟨⟨old, g⟩, g1, g2⟩ := st
    obtain ⟨zs, z, hq, hx⟩ := hg
    obtain ⟨its, rv, p, hz⟩ := I.tuple hq
    have p' : s.heap.IsTuple a its.toArray := p
    obtain ⟨u, hu, ru⟩ := rv.get hx
    obtain ⟨n1, n2⟩ := apart p' g g1
    have le : e < s.heap.objs.size := Heap.lt_size g
    have li : it < s.heap.objs.size := by obtain ⟨_, q, _⟩ := g1; exact Heap.lt_size q
    have lt : i < its.toArray.size := by
      have := (List.getElem?_eq_some_iff.mp hu).1
      simpa using this
    refine wpAny_pyNext_enum_itemD (A := X.A) (Draws.tuple (A := X.A.in1) (I.ok.hd hc) it a n1 its.toArray) g ⟨g1, p'⟩ lt g2 (by simp [g2, Ne.symm n2]) fun x h' tk hx' ho st' hT _ kk => ?_
    have ex : x = u := by
      have q1 : its[i]? = some x := by simpa using hx'
      rw [hu] at q1
      exact (Option.some.inj q1).symm
    subst ex
    refine ⟨_, rfl, wpAny_letOwnedTupleGo_enum (s := { s with heap := h', toks := tk + 1 }) ho fun h2 ho2 sb => ?_⟩
    have e1 : h2.get? s.heap.objs.size = some { cls := .type "tuple", data := .seq #[.int i tk, x] } := (sb.2 _ (Nat.ne_of_gt le)).trans hT
    have ok : ObjOk X.prog X.w (upd H s.heap.objs.size (.tup [.int (i : Nat), z])) h2 s.heap.objs.size (.tup [.int (i : Nat), z]) :=
      ⟨(by decide : 2 ≤ sizeLine), _, .cons ⟨_, rfl⟩ (.cons ru .nil), _, e1, rfl, _, rfl⟩
    have J : Inv X pins σ (upd H s.heap.objs.size (.tup [.int (i : Nat), z])) { s with heap := h2, toks := tk + 1 } :=
      I.turnedNew (ch := [e, it]) (fun b ob hb q => by
        have b1 : b ≠ e := fun y => hb (by simp [y])
        have b2 : b ≠ it := fun y => hb (by simp [y])
        exact (sb.2 b b1).trans (kk b ob b1 b2 q)) hf (Nat.le_refl _) ok
    have es : ((i + 1 : Nat) : Int) = (i : Int) + 1 := by omega
    refine ⟨.ref s.heap.objs.size, _, J, rfl, ⟨_, z, rfl, I.hok.fresh (Nat.le_refl _), rfl, fun ys hy => ?_⟩, ⟨⟨x, by rw [es]; exact ho2⟩, st'.1.at fun o q => (sb.2 it (Ne.symm g2)).trans q, g2⟩, fun b hb => ?_⟩
    · rw [I.tuple_inj hy hq]
      exact hx
    · have lb : b < s.heap.objs.size := by rcases two hb with y | y <;> (rw [y]; assumption)
      rw [upd_ne (Nat.ne_of_lt lb)]
      exact (hf b hb).1
  · intro X hP hw hK hc i pins s σ H E I hf st hg
    subst hP hw hK
    obtain ⟨⟨old, g⟩, g1, g2⟩ := st
    obtain ⟨zs, hq, hx⟩ := hg
    obtain ⟨its, rv, p, hz⟩ := I.tuple hq
    have p' : s.heap.IsTuple a its.toArray := p
    obtain ⟨n1, n2⟩ := apart p' g g1
    obtain ⟨f0, f1, f2, f3, f4, f5⟩ := hf it (by simp)
    have hl := rv.length
    have ei : i = its.toArray.size := by rw [List.size_toArray, ← hl]; exact hx.symm
    have g1' : s.heap.IsTupleIter it a its.toArray.size := by rw [← ei]; exact g1
    refine wpAny_pyNext_enum_endD (A := X.A) (Draws.tuple (A := X.A.in1) (I.ok.hd hc) it a n1 its.toArray) g ⟨g1', p'⟩ fun h' eb => ⟨rfl, ?_⟩
    exact I.turned (t' := s.toks) (fun b o hb q => eb b o hb q) f0 f1 f3 f4 f5
def iEnumT (K : PySem.W.Frag) (ta : TA) : TI := fun σ H R => ta σ H fun vs G => ∃ a zs, vs = [.ref a] ∧ SqT K G a zs ∧ R (IteT K a) G
theorem pi_enumT {X : Cx} {e : Expr} {ta : TA} {p pos tpos : Pos} {elts : List Expr} {kk : Nat} (hg : Gl X "enumerate") (hm : X.mg "enumerate" = none) (ha : PA X [e] ta) (hs : starEach [e] X.env = [(false, eval e X.env)] := by rfl) :
    PI X (.Tuple elts kk tpos) (.Call (.Name "enumerate" p) [e] [] pos) (iEnumT X.K ta) := by
  refine ⟨fun pins s σ H R I h => Call_ (ld_blt I hg hm boot_enumerate (PyProof.Rows.callWith_type1 (thn (ha.run pos pins s σ H _ I h) fun us s1 ⟨vs, G, J, r, a, zs, ev, hq, q⟩ => ?_) hs rfl))⟩
  subst ev
  rw [Vals.ref1 r]
  obtain ⟨its, rv, p', hz⟩ := J.tuple hq
  have p2 : s1.heap.IsTuple a its.toArray := p'
  have z1 : (s1.heap.push (titO a)).objs.size = s1.heap.objs.size + 1 := Heap.size_push ..
  refine callType_new F.called_enumerate (by decide) (F.typeCall_enumerate_1 _) (F.newCall_enumerate_1 _) (fun o => F.args_object_init_2 o _) F.entry_enumerate_new (enumT_made a its.toArray) ⟨p2, ?_⟩
  show _ ∧ _
  rw [z1]
  have k1 : ∀ b o, s1.heap.get? b = some o → ((s1.heap.push (titO a)).push (enumO s1.heap.objs.size)).get? b = some o := fun b o x => Heap.get?_push_of_some _ (Heap.get?_push_of_some _ x)
  have ie : IsEnum ((s1.heap.push (titO a)).push (enumO s1.heap.objs.size)) (s1.heap.objs.size + 1) s1.heap.objs.size 0 .none := by
    have y := Heap.get?_push_size (s1.heap.push (titO a)) (o := enumO s1.heap.objs.size) rfl
    rw [z1] at y
    exact y
  have ti : ((s1.heap.push (titO a)).push (enumO s1.heap.objs.size)).IsTupleIter s1.heap.objs.size a 0 := ⟨_, Heap.get?_push_of_some _ (Heap.get?_push_size _ rfl), rfl, rfl⟩
  refine ⟨⟨_, ie, rfl⟩, wpAny_pyIter_enum ie ?_⟩
  refine ⟨s1.heap.objs.size + 1, [s1.heap.objs.size + 1, s1.heap.objs.size], _, _, G, rfl, J.kept (t' := s1.toks) k1, turn_enumT a _ _, ⟨⟨.none, ie⟩, ti, Nat.succ_ne_self _⟩, fun b hb => ?_, q⟩
  have lb : s1.heap.objs.size ≤ b := by
    have y : b = s1.heap.objs.size + 1 ∨ b = s1.heap.objs.size := by simpa using hb
    rcases y with y | y
    · rw [y]; exact Nat.le_succ _
    · rw [y]; exact Nat.le_refl _
  exact J.fpOk lb (J.hok.fresh lb)
end
end Sb
/-! P4: isinstance, methods of texts, what is walked, targets, comprehensions. -/
namespace Sb
open PySem PySem.Spec PyProof.Rows L2
section
variable {X : Cx} {e e2 e3 : Expr} {es : List Expr} {f g : FE} {fa : FA} {ft fu : FT}
def fIsi (kb : PyData → Bool) (f : FE) : FE := fun e n => match f e n with
  | none => none
  | some (a, n1) => match a.see with
    | none => none
    | some x => some (.d (.bool (kb x)), n1)
theorem e_isi {T : String} {kb : PyData → Bool} {p pos : Pos} (hk : ∀ d, PySem.W.kitOne X.K (.type (tyD d)) (.type T) = some (kb d)) (hg : Gl X "isinstance") (hm : X.mg "isinstance" = none) (ha : PA X [e, e2] (tCons (tE X.kw f) (tCons (tC (.ty T)) tNil)))
    (he : starEach [e, e2] X.env = (false, eval e X.env) :: starEach [e2] X.env := by rfl) (hpl : (backTo pos (starEach [e2] X.env)).any (·.1) = false := by rfl) : PE X (.Call (.Name "isinstance" p) [e, e2] [] pos) (tE X.kw (fIsi kb f)) :=
  (pe_callB call_isi hg hm (by decide +kernel) ha (by decide) (by decide) he hpl).by fun σ H Q ⟨st, n, H0, I, ev, w, E, sv, n', q, k⟩ => by
    unfold fIsi at q
    split at q
    · cases q
    · rename_i a n1 q1
      split at q
      · cases q
      · rename_i x q2
        cases q
        refine ⟨st, n, H0, I, ev, w, E, a, _, q1, fun v I1 H1 x1 r1 _ => ?_⟩
        have hd := (r1.see q2).dp x1.w.im
        exact ⟨v, .ty T, .type (tyD x), .type T, kb x, rfl, .ty _, dp_ty hd, hk x, k _ I1 H1 x1 (.bl _) trivial⟩
/-! ### methods -/
/-! join, count -/
/-! ### what is walked -/
abbrev FI := Ev → Nat → Option (List PyData × Nat)
def JR (K : KW) (st : Stt) (J : It) (xs : List PyData) (I : Hp) (P : Hp → Prop) : Prop := ∃ (G : Hp → Prop) (Y : Nat → Hp → V → Hp → Prop), Walk J xs.length G Y ∧ (∀ n1 I1 H1, Wr st n1 I1 H1 → Same I I1 → P H1 → G H1) ∧
  ∀ n1 I1 H1 i x H2, Wr st n1 I1 H1 → Same I I1 → P H1 → i < xs.length → Y i H1 x H2 → ∃ I2 d, xs[i]? = some d ∧ Xt st n1 I1 H1 I2 H2 ∧ Dp K I2 x d
theorem JR.imp {K : KW} {st J xs I P P'} (h : JR K st J xs I P) (k : ∀ H, P' H → P H) : JR K st J xs I P' := by
  obtain ⟨G, Y, w, g, y⟩ := h
  exact ⟨G, Y, w, fun n1 I1 H1 a b c => g n1 I1 H1 a b (k _ c), fun n1 I1 H1 i x H2 a b c => y n1 I1 H1 i x H2 a b (k _ c)⟩
/-- c: in a comprehension, where lists of one's own stand still -/
def Still (c : Bool) (st : Stt) (H' H1 : Hp) : Prop := c = true → ∀ b o, b ≠ st.a → H' b = some o → H1 b = some o
def tIs (K : KW) (c : Bool) (it : FI) : TI := fun σ H R => ∃ st n H0 I e, Wr st n I H ∧ Er K st H0 I H σ e ∧ ∃ xs n', it e n = some (xs, n') ∧ xs.length ≤ big ∧ ∀ J I' H', Xt st n' I H I' H' → JR K st J xs I' (Still c st H') → R J H'
theorem PI.or {tg it : Expr} {t u : TI} (h1 : PI X tg it t) (h2 : PI X tg it u) : PI X tg it (fun σ H R => t σ H R ∨ u σ H R) := ⟨fun pins s σ H R I q => by
  rcases q with q | q
  · exact h1.run pins s σ H R I q
  · exact h2.run pins s σ H R I q⟩
theorem jr_seq {K : KW} {st I vs xs} {P : Hp → Prop} {S : Hp → Prop} {J : It} (w : Walk J vs.length S (YAt vs)) (hd : DpAll K I vs xs) (hS : ∀ n1 I1 H1, Wr st n1 I1 H1 → Same I I1 → P H1 → S H1) : JR K st J xs I P := by
  refine ⟨S, YAt vs, by rw [← DpAll.len hd]; exact w, hS, fun n1 I1 H1 i x H2 w1 s1 p hi ⟨e, hx⟩ => ?_⟩
  subst e
  obtain ⟨d, e1, k1⟩ := DpAll.get hd hx
  exact ⟨I1, d, e1, .refl w1, Dp.mono s1 _ _ k1⟩
/-- a list, a tuple, a text: to keep -/
def itTake (f : FE) : FI := fun e n => match f e n with
  | some (.d (.list xs), n1) => some (xs, n1)
  | some (.cell xs, n1) => some (xs, n1)
  | some (.d (.tuple xs), n1) => some (xs, n1)
  | some (.d (.str z), n1) => some ((signs z).map PyData.str, n1)
  | _ => none
/-- .. to look at -/
def itSee (f : FE) : FI := fun e n => match f e n with
  | some (.bor xs, n1) => some (xs, n1)
  | some (.d (.list xs), n1) => some (xs, n1)
  | some (.cell xs, n1) => some (xs, n1)
  | some (.d (.tuple xs), n1) => some (xs, n1)
  | some (.d (.str z), n1) => some ((signs z).map PyData.str, n1)
  | _ => none
def iSeq (K : KW) (te : TE) : TI := fun σ H R => iList K te σ H R ∨ (iTup K te σ H R ∨ iStr te σ H R)
theorem pi_seq {tg : Expr} {te : TE} (h : PE X e te) : PI X tg e (iSeq X.kw te) := PI.or (pi_list h) (PI.or (pi_tup h) (pi_str h))
theorem jr_str {K : KW} {st I} {z : Str} {P : Hp → Prop} : JR K st (Its z) ((signs z).map PyData.str) I P := by
  have hl : ((signs z).map PyData.str).length = z.cps.size := by unfold signs; rw [List.length_map, List.length_map, Array.length_toList]
  refine ⟨fun _ => True, fun i H v H' => H' = H ∧ ∃ c, z.cps[i]? = some c ∧ v = .str ⟨#[c]⟩, by rw [hl]; exact walk_str, fun _ _ _ _ _ _ => trivial, fun n1 I1 H1 i x H2 w1 s1 p hi ⟨e, c, hc, hx⟩ => ?_⟩
  subst e hx
  refine ⟨I1, .str ⟨#[c]⟩, ?_, .refl w1, .str _⟩
  unfold signs
  rw [List.getElem?_map, List.getElem?_map, Array.getElem?_toList, hc]
  rfl
theorem i_for {tg : Expr} (h : PE X e (tE X.kw f)) : PI X tg e (tIs X.kw false (itTake f)) := (pi_seq h).by fun σ H R ⟨st, n, H0, I, ev, w, E, xs, n', q, hl, k⟩ => by
  unfold itTake at q
  split at q
  · rename_i ys n1 q1
    cases q
    refine .inl ⟨st, n, H0, I, ev, w, E, _, _, q1, fun v I1 H1 x1 r1 _ => ?_⟩
    cases r1 with
    | lst hs ha => exact ⟨_, rfl, ⟨_, x1.w.im.sub.seq hs⟩, k _ I1 H1 x1 (jr_seq walk_list ha fun n1 I2 H2 w2 s2 _ => w2.im.sub.seq (s2.seq hs))⟩
  · rename_i ys n1 q1
    cases q
    refine .inl ⟨st, n, H0, I, ev, w, E, _, _, q1, fun v I1 H1 x1 r1 f1 => ?_⟩
    obtain ⟨I2, x2, _, d2⟩ := SvR.keep (d := .list xs) x1 r1 f1 rfl
    cases d2 with
    | lst hs ha => exact ⟨_, rfl, ⟨_, x2.w.im.sub.seq hs⟩, k _ I2 H1 x2 (jr_seq walk_list ha fun n1 I2 H2 w2 s2 _ => w2.im.sub.seq (s2.seq hs))⟩
  · rename_i ys n1 q1
    cases q
    refine .inr (.inl ⟨st, n, H0, I, ev, w, E, _, _, q1, fun v I1 H1 x1 r1 _ => ?_⟩)
    cases r1 with
    | tup hs ha => exact ⟨_, rfl, ⟨_, ex_sqT x1.w.im.sub hs⟩, k _ I1 H1 x1 (jr_seq walk_tup ha fun n1 I2 H2 w2 s2 _ => ex_sqT w2.im.sub (ex_sqT s2 hs))⟩
  · rename_i z n1 q1
    cases q
    refine .inr (.inr ⟨st, n, H0, I, ev, w, E, _, _, q1, fun v I1 H1 x1 r1 _ => ?_⟩)
    cases r1
    exact ⟨z, rfl, k _ I1 H1 x1 jr_str⟩
  · cases q
theorem i_lc {tg : Expr} (h : PE X e (tE X.kw f)) : PI X tg e (tIs X.kw true (itSee f)) := (pi_seq h).by fun σ H R ⟨st, n, H0, I, ev, w, E, xs, n', q, hl, k⟩ => by
  unfold itSee at q
  split at q
  · rename_i ys n1 q1
    cases q
    refine .inl ⟨st, n, H0, I, ev, w, E, _, _, q1, fun v I1 H1 x1 r1 _ => ?_⟩
    obtain ⟨p, vs, e1, h1, h2, h3, h4⟩ := r1
    exact ⟨p, e1, ⟨vs, SqL.of h1⟩, k _ I1 H1 x1 (jr_seq walk_list h4 fun n1 I2 H2 w2 s2 st2 => SqL.of (st2 rfl p _ h3 h1))⟩
  · rename_i ys n1 q1
    cases q
    refine .inl ⟨st, n, H0, I, ev, w, E, _, _, q1, fun v I1 H1 x1 r1 _ => ?_⟩
    cases r1 with
    | lst hs ha => exact ⟨_, rfl, ⟨_, x1.w.im.sub.seq hs⟩, k _ I1 H1 x1 (jr_seq walk_list ha fun n1 I2 H2 w2 s2 _ => w2.im.sub.seq (s2.seq hs))⟩
  · rename_i ys n1 q1
    cases q
    refine .inl ⟨st, n, H0, I, ev, w, E, _, _, q1, fun v I1 H1 x1 r1 f1 => ?_⟩
    obtain ⟨p, vs, e1, h1, h2, h3, h4⟩ := r1
    exact ⟨p, e1, ⟨vs, SqL.of h1⟩, k _ I1 H1 x1 (jr_seq walk_list h4 fun n1 I2 H2 w2 s2 st2 => SqL.of (st2 rfl p _ h3 h1))⟩
  · rename_i ys n1 q1
    cases q
    refine .inr (.inl ⟨st, n, H0, I, ev, w, E, _, _, q1, fun v I1 H1 x1 r1 _ => ?_⟩)
    cases r1 with
    | tup hs ha => exact ⟨_, rfl, ⟨_, ex_sqT x1.w.im.sub hs⟩, k _ I1 H1 x1 (jr_seq walk_tup ha fun n1 I2 H2 w2 s2 _ => ex_sqT w2.im.sub (ex_sqT s2 hs))⟩
  · rename_i z n1 q1
    cases q
    refine .inr (.inr ⟨st, n, H0, I, ev, w, E, _, _, q1, fun v I1 H1 x1 r1 _ => ?_⟩)
    cases r1
    exact ⟨z, rfl, k _ I1 H1 x1 jr_str⟩
  · cases q
/-! range -/
def intsUp (lo : Int) (n : Nat) : List PyData := (List.range n).map fun (i : Nat) => .int (lo + (i : Int))
def smallI (i : Int) : Bool := decide (-(2 ^ 62) ≤ i) && decide (i < 2 ^ 62)
def itRng1 (fa : FA) : FI := fun e n => match fa e n with
  | some ([.d (.int j)], n1) => if smallI j = true then some (intsUp 0 j.toNat, n1) else none
  | _ => none
def itRng2 (fa : FA) : FI := fun e n => match fa e n with
  | some ([.d (.int i), .d (.int j)], n1) => if smallI i = true ∧ smallI j = true then some (intsUp i (j - i).toNat, n1) else none
  | _ => none
theorem jr_rng {K : KW} {st I lo n} {P : Hp → Prop} : JR K st (Itr lo n) (intsUp lo n) I P := by
  have hl : (intsUp lo n).length = n := by unfold intsUp; rw [List.length_map, List.length_range]
  refine ⟨fun _ => True, YFn fun i => .int (lo + i), by rw [hl]; exact walk_range, fun _ _ _ _ _ _ => trivial, fun n1 I1 H1 i x H2 w1 s1 p hi ⟨e, hx⟩ => ?_⟩
  subst e hx
  refine ⟨I1, _, ?_, .refl w1, .int _⟩
  rw [hl] at hi
  unfold intsUp
  rw [List.getElem?_map, List.getElem?_range hi]
  rfl
theorem small_of {i : Int} (h : smallI i = true) : -(2 ^ 62) ≤ i ∧ i < 2 ^ 62 := by
  unfold smallI at h
  simpa using h
theorem i_rng1 {c : Bool} {tg : Expr} (h : PI X tg e (iRng1 (tAs X.kw fa))) : PI X tg e (tIs X.kw c (itRng1 fa)) := h.by fun σ H R ⟨st, n, H0, I, ev, w, E, xs, n', q, hl, k⟩ => by
  unfold itRng1 at q
  split at q
  · rename_i j n1 q1
    split at q
    · rename_i hs
      cases q
      refine ⟨st, n, H0, I, ev, w, E, _, _, q1, fun vs I1 H1 x1 r1 => ?_⟩
      cases r1 with
      | cons h1 _ h2 =>
        cases h2
        cases h1
        exact ⟨j, rfl, (small_of hs).1, (small_of hs).2, k _ I1 H1 x1 jr_rng⟩
    · cases q
  · cases q
theorem i_rng2 {c : Bool} {tg : Expr} (h : PI X tg e (iRng2 (tAs X.kw fa))) : PI X tg e (tIs X.kw c (itRng2 fa)) := h.by fun σ H R ⟨st, n, H0, I, ev, w, E, xs, n', q, hl, k⟩ => by
  unfold itRng2 at q
  split at q
  · rename_i i j n1 q1
    split at q
    · rename_i hs
      cases q
      refine ⟨st, n, H0, I, ev, w, E, _, _, q1, fun vs I1 H1 x1 r1 => ?_⟩
      cases r1 with
      | cons h1 _ h2 =>
        cases h2 with
        | cons h3 _ h4 =>
          cases h4
          cases h1
          cases h3
          exact ⟨i, j, rfl, ⟨(small_of hs.1).1, (small_of hs.1).2, (small_of hs.2).1, (small_of hs.2).2⟩, k _ I1 H1 x1 jr_rng⟩
    · cases q
  · cases q
/-! enumerate, zip -/
def pairsD : Nat → List PyData → List PyData
  | _, [] => []
  | i, x :: xs => .tuple [.int (i : Int), x] :: pairsD (i + 1) xs
theorem pairsD_len : ∀ (xs : List PyData) (i : Nat), (pairsD i xs).length = xs.length
  | [], _ => rfl
  | x :: xs, i => by rw [pairsD, List.length_cons, List.length_cons, pairsD_len]
theorem pairsD_get : ∀ (xs : List PyData) (i j : Nat), (pairsD i xs)[j]? = (xs[j]?).map fun x => .tuple [.int ((i + j : Nat) : Int), x]
  | [], _, _ => by simp [pairsD]
  | x :: xs, i, 0 => by simp [pairsD]
  | x :: xs, i, j + 1 => by
    rw [pairsD, List.getElem?_cons_succ, List.getElem?_cons_succ, pairsD_get xs (i + 1) j]
    have : i + 1 + j = i + (j + 1) := by omega
    rw [this]
theorem dp_pair {K : KW} {st n I H T v w a b} (W : Wr st n I H) (hT : H T = none) (h1 : Dp K I v a) (h2 : Dp K I w b) : Xt st n I H (upd I T (.tup [v, w])) (upd H T (.tup [v, w])) ∧ Dp K (upd I T (.tup [v, w])) (.ref T) (.tuple [a, b]) :=
  dp_tupNew W (.cons h1 (.cons h2 .nil)) hT
theorem walk_enumT {K : PySem.W.Frag} {a : Addr} {xs : List V} : Walk (IteT K a) xs.length (fun H => SqT K H a xs) (YPair (fun i => some (.int (i : Nat))) (fun i => xs[i]?)) :=
  ⟨fun i _ hi q => ⟨xs, xs[i], q, by simp [hi]⟩, fun _ q => ⟨xs, q, rfl⟩, fun i H v H' _ q y => by
    obtain ⟨T, x, g1, g2, g3, g4⟩ := y
    exact ⟨T, .int (i : Nat), x, g1, g2, g3, rfl, g4 xs q⟩⟩
theorem jr_enum {K : KW} {st I vs xs} {P : Hp → Prop} {S : Hp → Prop} {J : It} (w : Walk J vs.length S (YPair (fun i => some (.int (i : Nat))) (fun i => vs[i]?))) (hd : DpAll K I vs xs) (hS : ∀ n1 I1 H1, Wr st n1 I1 H1 → Same I I1 → P H1 → S H1) : JR K st J (pairsD 0 xs) I P := by
  refine ⟨S, YPair (fun i => some (.int (i : Nat))) (fun i => vs[i]?), by rw [pairsD_len, ← DpAll.len hd]; exact w, hS, fun n1 I1 H1 i x H2 w1 s1 p hi ⟨T, a, b, e, hT, e2, ha, hb⟩ => ?_⟩
  subst e e2
  cases ha
  obtain ⟨d, e1, k1⟩ := DpAll.get hd hb
  obtain ⟨x2, k2⟩ := dp_pair w1 hT (.int (i : Nat)) (Dp.mono s1 _ _ k1)
  refine ⟨_, _, ?_, x2, k2⟩
  rw [pairsD_get, e1, Nat.zero_add]
  rfl
def itEnum (fa : FA) : FI := fun e n => match fa e n with
  | some ([.d (.list xs)], n1) => some (pairsD 0 xs, n1)
  | some ([.d (.tuple xs)], n1) => some (pairsD 0 xs, n1)
  | _ => none
theorem i_enum {c : Bool} {tg : Expr} (h1 : PI X tg e (iEnum X.K (tAs X.kw fa))) (h2 : PI X tg e (iEnumT X.K (tAs X.kw fa))) : PI X tg e (tIs X.kw c (itEnum fa)) := (PI.or h1 h2).by fun σ H R ⟨st, n, H0, I, ev, w, E, xs, n', q, hl, k⟩ => by
  unfold itEnum at q
  split at q
  · rename_i ys n1 q1
    cases q
    refine .inl ⟨st, n, H0, I, ev, w, E, _, _, q1, fun vs I1 H1 x1 r1 => ?_⟩
    cases r1 with
    | cons g1 _ g2 =>
      cases g2
      cases g1 with
      | lst hs ha => exact ⟨_, _, rfl, x1.w.im.sub.seq hs, k _ I1 H1 x1 (jr_enum walk_enum ha fun n1 I2 H2 w2 s2 _ => w2.im.sub.seq (s2.seq hs))⟩
  · rename_i ys n1 q1
    cases q
    refine .inr ⟨st, n, H0, I, ev, w, E, _, _, q1, fun vs I1 H1 x1 r1 => ?_⟩
    cases r1 with
    | cons g1 _ g2 =>
      cases g2
      cases g1 with
      | tup hs ha => exact ⟨_, _, rfl, ex_sqT x1.w.im.sub hs, k _ I1 H1 x1 (jr_enum walk_enumT ha fun n1 I2 H2 w2 s2 _ => ex_sqT w2.im.sub (ex_sqT s2 hs))⟩
  · cases q
/-! ### targets -/
abbrev FG := PyData → Ev → Option Ev
theorem wipe_in {σ : L2.St} {j : Nat} : ∀ {is : List Nat}, j ∈ is → (wipe σ is)[j]? = if j < σ.length then some none else none
  | [], h => by cases h
  | i :: is, h => by
    rw [wipe]
    by_cases e : i = j
    · subst e
      by_cases l : i < σ.length
      · rw [List.getElem?_set_self (by rw [wipe_length]; exact l), if_pos l]
      · rw [List.getElem?_eq_none (by rw [List.length_set, wipe_length]; omega), if_neg l]
    · rw [List.getElem?_set_ne e]
      rcases List.mem_cons.mp h with z | z
      · exact absurd z.symm e
      · exact wipe_in z
theorem wipe_wipe (σ : L2.St) (is : List Nat) : wipe (wipe σ is) is = wipe σ is := by
  apply List.ext_getElem?
  intro j
  by_cases h : j ∈ is
  · rw [wipe_in h, wipe_in h, wipe_length]
  · rw [wipe_get h]
theorem wipe_set {σ : L2.St} {is : List Nat} {i : Nat} {o : Option V} (h : i ∈ is) : wipe (σ.set i o) is = wipe σ is := by
  apply List.ext_getElem?
  intro j
  by_cases hj : j ∈ is
  · rw [wipe_in hj, wipe_in hj, List.length_set]
  · rw [wipe_get hj, wipe_get hj, List.getElem?_set_ne]
    intro e
    subst e
    exact hj h
/-- slots that a target leaves: data alone is new -/
def Kept (e e' : Ev) (σ σ' : L2.St) : Prop := ∀ (j : Nat) (sv : Sv), e'[j]? = some (some sv) → (∃ x, sv = .d x) ∨ (e[j]? = some (some sv) ∧ σ'[j]? = σ[j]?)
theorem Kept.refl {e : Ev} {σ : L2.St} : Kept e e σ σ := fun _ _ h => .inr ⟨h, rfl⟩
theorem Kept.trans {e e1 e2 : Ev} {σ σ1 σ2 : L2.St} (a : Kept e e1 σ σ1) (b : Kept e1 e2 σ1 σ2) : Kept e e2 σ σ2 := fun j sv h => by
  rcases b j sv h with x | ⟨x, y⟩
  · exact .inl x
  · rcases a j sv x with z | ⟨z, u⟩
    · exact .inl z
    · exact .inr ⟨z, y.trans u⟩
theorem Kept.set {e : Ev} {σ : L2.St} {i : Nat} {x : PyData} {v : V} : Kept e (e.set i (some (.d x))) σ (σ.set i (some v)) := fun j sv h => by
  by_cases q : i = j
  · subst q
    have hl : i < e.length := by
      have := (List.getElem?_eq_some_iff.mp h).1
      simpa using this
    rw [List.getElem?_set_self hl] at h
    cases h
    exact .inl ⟨_, rfl⟩
  · rw [List.getElem?_set_ne q] at h
    exact .inr ⟨h, List.getElem?_set_ne q⟩
def GDo (K : KW) (g : TG) (tg : FG) (sl : List Nat) : Prop := ∀ st H0 n I H σ e v x e' (Q : L2.St → Hp → Prop), Wr st n I H → Er K st H0 I H σ e → Dp K I v x → tg x e = some e' →
  (∀ σ', Er K st H0 I H σ' e' → (∀ own : List Nat, (∀ i ∈ sl, i ∈ own) → wipe σ' own = wipe σ own) → Kept e e' σ σ' → Q σ' H) → g v σ H Q
def tgN (i : Nat) : FG := fun x e => some (e.set i (some (.d x)))
theorem gd_name {K : KW} {i : Nat} : GDo K (gName i) (tgN i) [i] := by
  intro st H0 n I H σ e v x e' Q w E hd q k
  cases q
  exact k _ (E.setD i hd) (fun own h => wipe_set (h i List.mem_cons_self)) .set
def tgs : List FG → List PyData → Ev → Option Ev
  | [], [], e => some e
  | t :: ts, x :: xs, e => match t x e with
    | none => none
    | some e1 => tgs ts xs e1
  | _, _, _ => none
def tgT (ts : List FG) : FG := fun x e => match x with
  | .tuple xs => tgs ts xs e
  | _ => none
theorem tgs_len : ∀ {ts : List FG} {xs : List PyData} {e e' : Ev}, tgs ts xs e = some e' → xs.length = ts.length
  | [], [], _, _, _ => rfl
  | [], _ :: _, _, _, h => by cases h
  | _ :: _, [], _, _, h => by cases h
  | t :: ts, x :: xs, e, e', h => by
    unfold tgs at h
    split at h
    · cases h
    · rw [List.length_cons, List.length_cons, tgs_len h]
def GDs (K : KW) (g : TGs) (ts : List FG) (sl : List Nat) : Prop := ∀ st H0 n I H σ e vs xs e' (Q : L2.St → Hp → Prop), Wr st n I H → Er K st H0 I H σ e → DpAll K I vs xs → tgs ts xs e = some e' →
  (∀ σ', Er K st H0 I H σ' e' → (∀ own : List Nat, (∀ i ∈ sl, i ∈ own) → wipe σ' own = wipe σ own) → Kept e e' σ σ' → Q σ' H) → g vs σ H Q
theorem gds_nil {K : KW} : GDs K gNil [] [] := by
  intro st H0 n I H σ e vs xs e' Q w E hd q k
  cases hd with
  | nil => cases q; exact ⟨rfl, k σ E (fun _ _ => rfl) .refl⟩
  | cons _ _ => cases q
theorem gds_cons {K : KW} {g : TG} {gs : TGs} {t : FG} {ts : List FG} {s1 s2 : List Nat} (h1 : GDo K g t s1) (h2 : GDs K gs ts s2) : GDs K (gCons g gs) (t :: ts) (s1 ++ s2) := by
  intro st H0 n I H σ e vs xs e' Q w E hd q k
  cases hd with
  | nil => cases q
  | cons d1 d2 =>
    rename_i v vs x xs
    unfold tgs at q
    split at q
    · cases q
    · rename_i e1 q1
      refine ⟨v, vs, rfl, h1 st H0 n I H σ e v x e1 _ w E d1 q1 fun σ1 E1 k1 r1 => h2 st H0 n I H σ1 e1 vs xs e' Q w E1 d2 q fun σ2 E2 k2 r2 => k σ2 E2 (fun own ho => ?_) (r1.trans r2)⟩
      rw [k2 own fun i hi => ho i (List.mem_append_right _ hi), k1 own fun i hi => ho i (List.mem_append_left _ hi)]
theorem gd_tup {K : KW} {gs : TGs} {ts : List FG} {sl : List Nat} {m : Nat} (h : GDs K gs ts sl) (hm : ts.length = m) : GDo K (gTup K m gs) (tgT ts) sl := by
  intro st H0 n I H σ e v x e' Q w E hd q k
  unfold tgT at q
  split at q
  · cases hd with
    | tup hs ha =>
      exact ⟨_, _, rfl, ex_sqT w.im.sub hs, by rw [DpAll.len ha, tgs_len q, hm], h st H0 n I H σ e _ _ e' Q w E ha q k⟩
  · cases q
/-! ### comprehensions -/
def tT : FT := fun _ n => some (true, n)
def lcL (tg : FG) (own : List Nat) (t : FT) (f : FE) : List PyData → Ev → Nat → Option (List PyData × Nat)
  | [], _, n => some ([], n)
  | x :: xs, e, n => match tg x (wipeE e own) with
    | none => none
    | some e1 => match t e1 n with
      | none => none
      | some (false, n1) => lcL tg own t f xs e n1
      | some (true, n1) => match f e1 n1 with
        | none => none
        | some (sv, n2) => match sv.take with
          | none => none
          | some y => match lcL tg own t f xs e n2 with
            | none => none
            | some (ys, n3) => some (y :: ys, n3)
def fLc (it : FI) (tg : FG) (own : List Nat) (t : FT) (f : FE) : FE := fun e n => match it e n with
  | none => none
  | some (xs, n1) => if xs.length ≤ big then match lcL tg own t f xs e n1 with
      | none => none
      | some (ys, n2) => some (.cell ys, n2)
    else none
theorem pts_yes {X : Cx} : PTs X [] (tTs X.kw tT) := pts_nil.by fun σ H Q ⟨st, n, H0, I, ev, w, E, b, n', q, k⟩ => by
  cases q
  exact k I H (.refl w)
theorem lc_of {K : KW} {g : TG} {tg : FG} {sl own : List Nat} {it : FI} {t : FT} {f : FE} (hg : GDo K g tg sl) (ho : ∀ i ∈ sl, i ∈ own) (σ : L2.St) (H : Hp) (Q : VK) (h : tE K (fLc it tg own t f) σ H Q) : tLc (tIs K true it) g (tTs K t) (tE K f) own σ H Q := by
  obtain ⟨st, n, H0, I, ev, w, E, sv, n', q, k⟩ := h
  unfold fLc at q
  split at q
  · cases q
  · rename_i xs n1 q1
    split at q
    · rename_i hlen
      split at q
      · cases q
      · rename_i ys n2 q2
        cases q
        refine ⟨st, n, H0, I, ev, w, E, xs, n1, q1, hlen, fun J I1 H1 x1 ⟨G, Y, wk, hG, hY⟩ D hD => ?_⟩
        have hs : D ≠ st := x1.w.ne_st hD
        have iD : I1 D = none := x1.w.ine hD
        have E1 := E.mono x1
        refine lc_it wk (fun i H => ∃ I' m acc zs rs, Xt st m I1 H1 I' H ∧ I' D = none ∧ H D = some (.lst acc) ∧ DpAll K I' acc zs ∧ zs.length ≤ i ∧ lcL tg own t f (xs.drop i) ev m = some (rs, n') ∧ zs ++ rs = ys)
          ⟨I1, n1, [], [], ys, Xt.cell x1.w hD, iD, upd_same, .nil, Nat.zero_le _, q2, rfl⟩ ?_ ?_ ?_
        · rintro i H' hi ⟨I', m, acc, zs, rs, x2, i2, hacc, hd, hl, _, _⟩
          exact hG m I' H' x2.w x2.ii fun _ b o hb e => x2.hh b o hb e
        · rintro i x H' H'' hi ⟨I', m, acc, zs, rs, x2, i2, hacc, hd, hl, q3, q4⟩ y
          obtain ⟨I2, d, e1, x3, kd⟩ := hY m I' H' i x H'' x2.w x2.ii (fun _ b o hb e => x2.hh b o hb e) hi y
          have hdr : xs.drop i = d :: xs.drop (i + 1) := by
            rw [List.drop_eq_getElem_cons hi]
            congr 1
            rw [List.getElem?_eq_getElem hi] at e1
            exact Option.some.inj e1
          rw [hdr] at q3
          unfold lcL at q3
          split at q3
          · cases q3
          · rename_i ev1 p1
            have x23 := x2.trans x3
            have E3 := (E1.mono x23).wipe own
            refine hg st H0 m I2 H'' (wipe σ own) _ x d ev1 _ x3.w E3 kd p1 fun σ2 E4 kw _ => ⟨by rw [kw own ho, wipe_wipe], ?_⟩
            have hacc2 : H'' D = some (.lst acc) := x3.hh D _ hs hacc
            have i3 : I2 D = none := by rw [x3.old D _ hacc]; exact i2
            split at q3
            · cases q3
            · rename_i m1 p2
              refine ⟨st, m, H0, I2, ev1, x3.w, E4, false, m1, p2, fun I4 H4 x4 => ?_⟩
              dsimp only
              rw [if_neg Bool.false_ne_true]
              exact ⟨I4, m1, acc, zs, rs, x23.trans x4, by rw [x4.old D _ hacc2]; exact i3, x4.hh D _ hs hacc2, DpAll.mono (x3.trans x4).ii _ _ hd, Nat.le_succ_of_le hl, q3, q4⟩
            · rename_i m1 p2
              refine ⟨st, m, H0, I2, ev1, x3.w, E4, true, m1, p2, fun I4 H4 x4 => ?_⟩
              dsimp only
              rw [if_pos rfl]
              split at q3
              · cases q3
              · rename_i sv m2 p3
                split at q3
                · cases q3
                · rename_i y' p4
                  split at q3
                  · cases q3
                  · rename_i us m3 p5
                    cases q3
                    refine ⟨st, m1, H0, I4, ev1, x4.w, E4.mono x4, sv, m2, p3, fun v I5 H5 x5 r5 f5 => ?_⟩
                    obtain ⟨I6, x6, s6, k6⟩ := SvR.keep x5 r5 f5 p4
                    have hacc4 : H4 D = some (.lst acc) := x4.hh D _ hs hacc2
                    have hacc5 : H5 D = some (.lst acc) := x6.hh D _ hs hacc4
                    have i4 : I4 D = none := by rw [x4.old D _ hacc2]; exact i3
                    have i6 : I6 D = none := by rw [x6.old D _ hacc4]; exact i4
                    have xx := (x23.trans x4).trans x6
                    have la : acc.length < sizeLine := by
                      rw [DpAll.len hd]
                      have : big < sizeLine := by decide
                      omega
                    refine ⟨acc, hacc5, la, I6, m2, acc ++ [v], zs ++ [y'], us, xx.put hD i6 hs, i6, upd_same, DpAll.app (DpAll.mono ((x3.trans x4).trans x6).ii _ _ hd) (.cons k6 .nil), ?_, p5, ?_⟩
                    · rw [List.length_append, List.length_singleton]
                      omega
                    · rw [List.append_assoc]
                      exact q4
        · rintro H' ⟨I', m, acc, zs, rs, x2, i2, hacc, hd, hl, q3, q4⟩
          rw [List.drop_length] at q3
          unfold lcL at q3
          cases q3
          rw [List.append_nil] at q4
          subst q4
          exact k (.ref D) I' H' (x1.trans x2) ⟨D, acc, rfl, hacc, i2, hs, hd⟩ fun p ep => by rw [← V.ref.inj ep]; exact x1.free hD hs
    · cases q
section
variable {X : Cx} {e : Expr}
theorem e_lc {g : TG} {tg : FG} {sl own : List Nat} {it : FI} {t : FT} {f : FE} (hg : GDo X.kw g tg sl) (ho : ∀ i ∈ sl, i ∈ own) (h : PE X e (tLc (tIs X.kw true it) g (tTs X.kw t) (tE X.kw f) own)) : PE X e (tE X.kw (fLc it tg own t f)) := h.by fun σ H Q q => lc_of hg ho σ H Q q
end
end
end Sb
/-! P4b: comprehensions of two clauses. -/
/-! P5: statements, defs. -/
namespace Sb
open PySem PySem.Spec PyProof.Rows L2
section
variable {X : Cx} {s : Stmt} {ss : List Stmt} {e : Expr} {f g : FE} {fa : FA} {ft : FT} {a b : FS} {K : KW}
def sNx : FS := fun e n => some (.nx, e, n)
def sSeq (a b : FS) : FS := fun e n => match a e n with
  | some (.nx, e1, n1) => b e1 n1
  | r => r
theorem tSs_next {K : KW} : ∀ D σ H, tSs K sNx D σ H → tNext D σ H := fun D σ H ⟨st, n, I0, H0, I, e, x, E, fl, e', n', q, k⟩ => by
  cases q
  exact k σ I H x E (Same.refl _)
theorem b_nil : PSs X [] (tSs X.kw sNx) := pss_nil.by tSs_next
theorem b_cons (h1 : PS X s (tSs X.kw a)) (h2 : PSs X ss (tSs X.kw b)) : PSs X (s :: ss) (tSs X.kw (sSeq a b)) := (pss_cons h1 h2).by fun D σ H ⟨st, n, I0, H0, I, e, x, E, fl, e', n', q, k⟩ => by
  unfold sSeq at q
  split at q
  · rename_i e1 n1 q1
    exact ⟨st, n, I0, H0, I, e, x, E, .nx, e1, n1, q1, fun σ1 I1 H1 x1 E1 s1 => ⟨st, n1, I0, H0, I1, e1, x1, E1, fl, e', n', q, Fin.up s1 k⟩⟩
  · rename_i hne
    refine ⟨st, n, I0, H0, I, e, x, E, fl, e', n', q, ?_⟩
    cases fl with
    | nx => exact absurd q (hne e' n')
    | rt v => exact k
    | bk => exact k
    | ct => exact k
theorem b_one (h1 : PS X s (tSs X.kw a)) : PSs X [s] (tSs X.kw a) := pss_one h1
/-! name = e -/
theorem Sv.own_nb {sv : Sv} (h : sv.own = true) : sv.own = true := h
def sAsg (i : Nat) (f : FE) : FS := fun e n => match f e n with
  | none => none
  | some (sv, n1) => if sv.own = true then some (.nx, e.set i (some sv), n1) else none
theorem s_set {i : Nat} (h : PS X s (tAsg (tE X.kw f) (gName i))) : PS X s (tSs X.kw (sAsg i f)) := h.by fun D σ H ⟨st, n, I0, H0, I, e, x, E, fl, e', n', q, k⟩ => by
  unfold sAsg at q
  split at q
  · cases q
  · rename_i sv n1 q1
    split at q
    · rename_i ho
      cases q
      refine ⟨st, n, H0, I, e, x.w, E, sv, _, q1, fun v I1 H1 x1 r1 f1 => ?_⟩
      exact k _ I1 H1 (x.trans x1) (E.setNew x1 x i r1 f1 (Sv.own_nb ho)) x1.ii
    · cases q
/-- a target of several names = e -/
def sAsgT (tg : FG) (f : FE) : FS := fun e n => match f e n with
  | none => none
  | some (sv, n1) => match sv.take with
    | none => none
    | some x => match tg x e with
      | none => none
      | some e1 => some (.nx, e1, n1)
theorem s_setT {g : TG} {tg : FG} {sl : List Nat} (hg : GDo X.kw g tg sl) (h : PS X s (tAsg (tE X.kw f) g)) : PS X s (tSs X.kw (sAsgT tg f)) := h.by fun D σ H ⟨st, n, I0, H0, I, e, x, E, fl, e', n', q, k⟩ => by
  unfold sAsgT at q
  split at q
  · cases q
  · rename_i sv n1 q1
    split at q
    · cases q
    · rename_i y q2
      split at q
      · cases q
      · rename_i e1 q3
        cases q
        refine ⟨st, n, H0, I, e, x.w, E, sv, _, q1, fun v I1 H1 x1 r1 f1 => ?_⟩
        obtain ⟨I2, x2, _, k2⟩ := SvR.keep x1 r1 f1 q2
        exact hg st H0 _ I2 H1 σ e v y _ _ x2.w (E.mono x2) k2 q3 fun σ' E' _ _ => k σ' I2 H1 (x.trans x2) E' x2.ii
/-- a, b = e1, e2 -/
def sPar (i j : Nat) (f g : FE) : FS := fun e n => match f e n with
  | none => none
  | some (a, n1) => match g e n1 with
    | none => none
    | some (b, n2) => if a.own = true ∧ b.own = true then some (.nx, (e.set i (some a)).set j (some b), n2) else none
theorem s_par2 {i j : Nat} (h : PS X s (tPar i j (tCons (tE X.kw f) (tCons (tE X.kw g) tNil)))) : PS X s (tSs X.kw (sPar i j f g)) := h.by fun D σ H ⟨st, n, I0, H0, I, e, x, E, fl, e', n', q, k⟩ => by
  unfold sPar at q
  split at q
  · cases q
  · rename_i a n1 q1
    split at q
    · cases q
    · rename_i b n2 q2
      split at q
      · rename_i ho
        cases q
        refine ⟨st, n, H0, I, e, x.w, E, a, n1, q1, fun v I1 H1 x1 r1 f1 => ⟨st, n1, H0, I1, e, x1.w, E.mono x1, b, _, q2, fun v2 I2 H2 x2 r2 f2 => ⟨v, v2, rfl, ?_⟩⟩⟩
        have E1 := E.setNew x1 x i r1 f1 (Sv.own_nb ho.1)
        exact k _ I2 H2 ((x.trans x1).trans x2) (E1.setNew x2 (x.trans x1) j r2 f2 (Sv.own_nb ho.2)) (x1.ii.trans x2.ii)
      · cases q
/-! return -/
def sRet (f : FE) : FS := fun e n => match f e n with
  | none => none
  | some (sv, n1) => if sv.own = true then some (.rt sv, e, n1) else none
theorem s_retE (h : PS X s (tRet (tE X.kw f))) : PS X s (tSs X.kw (sRet f)) := h.by fun D σ H ⟨st, n, I0, H0, I, e, x, E, fl, e', n', q, k⟩ => by
  unfold sRet at q
  split at q
  · cases q
  · rename_i sv n1 q1
    split at q
    · cases q
      exact ⟨st, n, H0, I, e, x.w, E, sv, _, q1, fun v I1 H1 x1 r1 f1 => k v I1 H1 (x.trans x1) r1 (Fr.back x r1 f1)⟩
    · cases q
/-- return of a name: a list of one's own goes with it -/
def sRetV (i : Nat) : FS := fun e n => match e[i]? with
  | some (some (.d x)) => some (.rt (.d x), e, n)
  | some (some (.cell xs)) => some (.rt (.cell xs), e, n)
  | _ => none
theorem s_retV {i : Nat} (h : PS X s (tRet (tVar i))) : PS X s (tSs X.kw (sRetV i)) := h.by fun D σ H ⟨st, n, I0, H0, I, e, x, E, fl, e', n', q, k⟩ => by
  unfold sRetV at q
  split at q
  · rename_i y q1
    cases q
    obtain ⟨v, h1, h2, h3⟩ := E.at_ i _ q1
    exact ⟨v, h1, k v I H x h2 trivial⟩
  · rename_i y q1
    cases q
    obtain ⟨v, h1, h2, h3⟩ := E.at_ i _ q1
    exact ⟨v, h1, k v I H x h2 h3⟩
  · cases q
/-! a call for what it does -/
def sDrop (f : FE) : FS := fun e n => match f e n with
  | none => none
  | some (_, n1) => some (.nx, e, n1)
theorem s_drop (h : PS X s (tDrop (tE X.kw f))) : PS X s (tSs X.kw (sDrop f)) := h.by fun D σ H ⟨st, n, I0, H0, I, e, x, E, fl, e', n', q, k⟩ => by
  unfold sDrop at q
  split at q
  · cases q
  · rename_i sv n1 q1
    cases q
    exact ⟨st, n, H0, I, e, x.w, E, sv, _, q1, fun v I1 H1 x1 r1 f1 => k σ I1 H1 (x.trans x1) (E.mono x1) x1.ii⟩
def sNever : FS := fun _ _ => none
theorem s_never : PS X s (tSs X.kw sNever) := ps_never.by fun D σ H ⟨st, n, I0, H0, I, e, x, E, fl, e', n', q, k⟩ => by cases q
/-! if -/
def sIf (t : FT) (a b : FS) : FS := fun e n => match t e n with
  | none => none
  | some (true, n1) => a e n1
  | some (false, n1) => b e n1
theorem s_ite {c : Expr} {sa sb : List Stmt} {pos : Pos} (hc : PT X c (tTs X.kw ft)) (h1 : PSs X sa (tSs X.kw a)) (h2 : PSs X sb (tSs X.kw b)) : PS X (.If c sa sb pos) (tSs X.kw (sIf ft a b)) := (ps_if hc h1 h2).by fun D σ H ⟨st, n, I0, H0, I, e, x, E, fl, e', n', q, k⟩ => by
  unfold sIf at q
  split at q
  · cases q
  · rename_i n1 q1
    refine ⟨st, n, H0, I, e, x.w, E, true, n1, q1, fun I1 H1 x1 => ?_⟩
    dsimp only
    rw [if_pos rfl]
    exact ⟨st, n1, I0, H0, I1, e, x.trans x1, E.mono x1, fl, e', n', q, Fin.up x1.ii k⟩
  · rename_i n1 q1
    refine ⟨st, n, H0, I, e, x.w, E, false, n1, q1, fun I1 H1 x1 => ?_⟩
    dsimp only
    rw [if_neg Bool.false_ne_true]
    exact ⟨st, n1, I0, H0, I1, e, x.trans x1, E.mono x1, fl, e', n', q, Fin.up x1.ii k⟩
/-! lists of one's own are kept from now on -/
def frzE (e : Ev) : List Nat → Ev
  | [] => e
  | i :: is => match (frzE e is)[i]? with
    | some (some (.cell xs)) => (frzE e is).set i (some (.d (.list xs)))
    | some (some (.tab t kvs)) => (frzE e is).set i (some (.ktab t kvs))
    | _ => frzE e is
/-- the thing that slot i holds becomes another one, nothing else does -/
theorem Er.change {st n I0 H0 I H I2 H2 σ e} {i : Nat} {sv sv2 : Sv} {p : Addr} (x : Xt st n I0 H0 I H) (E : Er K st H0 I H σ e) (q : e[i]? = some (some sv)) (l : sv.loose = true) (hp : σ[i]? = some (some (.ref p)))
    (s : Same I I2) (hI : ∀ b, b ≠ p → I2 b = I b) (hH : ∀ b, b ≠ p → H2 b = H b) (r : SvR K st I2 H2 (.ref p) sv2) (o : Own H0 (.ref p) sv2) : Er K st H0 I2 H2 σ (e.set i (some sv2)) := by
  obtain ⟨v, h1, h2, h3⟩ := E.at_ i sv q
  rw [hp] at h1
  cases h1
  have p0 : H0 p = none := by
    cases sv with
    | cell _ => exact h3 p rfl
    | tab _ _ => exact h3 p rfl
    | xc _ => exact h3 p rfl
    | xt _ => cases l
    | d _ => cases l
    | bor _ => cases l
    | st => cases l
    | kn _ => cases l
    | btab _ _ => cases l
    | ktab _ _ => cases l
  have li : i < e.length := (List.getElem?_eq_some_iff.mp q).1
  refine ⟨by rw [List.length_set]; exact E.len, fun j sv' qj => ?_, fun j k a b p' hjk q1 q2 l1 l2 q3 => ?_⟩
  · by_cases hj : i = j
    · subst hj
      rw [List.getElem?_set_self li] at qj
      cases qj
      exact ⟨_, hp, r, o⟩
    · rw [List.getElem?_set_ne hj] at qj
      obtain ⟨w, g1, g2, g3⟩ := E.at_ j sv' qj
      refine ⟨w, g1, ?_, g3⟩
      have own_ne : sv'.loose = true → ∀ p2, w = .ref p2 → p2 ≠ p := fun l' p2 e2 z => by
        subst z
        subst e2
        exact E.ap i j sv sv' p2 hj q qj l l' hp g1
      have lent_ne : ∀ p2, (H0 p2).isSome = true → p2 ≠ p := fun p2 z1 z => by
        rw [z, p0] at z1
        cases z1
      cases sv' with
      | d y => exact Dp.mono s _ _ g2
      | cell ys =>
        obtain ⟨p2, us, e2, k1, k2, k3, k4⟩ := g2
        have hne := own_ne rfl p2 e2
        exact ⟨p2, us, e2, by rw [hH p2 hne]; exact k1, by rw [hI p2 hne]; exact k2, k3, DpAll.mono s _ _ k4⟩
      | bor ys =>
        obtain ⟨p2, us, e2, k1, k2, k3, k4⟩ := g2
        have hne := lent_ne p2 (g3 p2 e2)
        exact ⟨p2, us, e2, by rw [hH p2 hne]; exact k1, by rw [hI p2 hne]; exact k2, k3, DpAll.mono s _ _ k4⟩
      | st => exact g2
      | kn u => exact g2
      | tab t kvs =>
        obtain ⟨p2, us, e2, k1, k2, k3, k4⟩ := g2
        have hne := own_ne rfl p2 e2
        exact ⟨p2, us, e2, by rw [hH p2 hne]; exact k1, by rw [hI p2 hne]; exact k2, k3, k4.mono s⟩
      | btab t kvs =>
        obtain ⟨p2, us, e2, k1, k2, k3, k4⟩ := g2
        have hne := lent_ne p2 (g3 p2 e2)
        exact ⟨p2, us, e2, by rw [hH p2 hne]; exact k1, by rw [hI p2 hne]; exact k2, k3, k4.mono s⟩
      | ktab t kvs =>
        obtain ⟨p2, u, e2, k1, k2⟩ := g2
        exact ⟨p2, u, e2, s _ _ k1, k2.mono s⟩
      | xt xs => exact XT.mono s g2
      | xc ys =>
        obtain ⟨p2, us, e2, k1, k2, k3, k4⟩ := g2
        have hne := own_ne rfl p2 e2
        exact ⟨p2, us, e2, by rw [hH p2 hne]; exact k1, by rw [hI p2 hne]; exact k2, k3, k4.mono s⟩
  · have n1 : ∀ (j' : Nat) (c : Sv), (e.set i (some sv2))[j']? = some (some c) → c.loose = true → ∃ c', e[j']? = some (some c') ∧ c'.loose = true := fun j' c h lc => by
      by_cases z : i = j'
      · subst z
        exact ⟨sv, q, l⟩
      · rw [List.getElem?_set_ne z] at h
        exact ⟨c, h, lc⟩
    obtain ⟨z1, m1, o1⟩ := n1 j a q1 l1
    obtain ⟨z2, m2, o2⟩ := n1 k b q2 l2
    exact E.ap j k z1 z2 p' hjk m1 m2 o1 o2 q3
theorem Er.frz1 {st n I0 H0 I H σ e} {i : Nat} {xs : List PyData} (x : Xt st n I0 H0 I H) (E : Er K st H0 I H σ e) (q : e[i]? = some (some (.cell xs))) : ∃ I', Xt st n I0 H0 I' H ∧ Same I I' ∧ Er K st H0 I' H σ (e.set i (some (.d (.list xs)))) := by
  obtain ⟨v, h1, ⟨p, vs, ev, h2, h3, h4, h5⟩, h6⟩ := E.at_ i _ q
  subst ev
  have p0 : H0 p = none := h6 p rfl
  have s1 : Same I (upd I p (.lst vs)) := same_new h3
  exact ⟨_, x.freeze p0 h4 h2, s1, E.change (sv2 := .d (.list xs)) x q rfl h1 s1 (fun b hb => upd_ne hb) (fun _ _ => rfl) (.lst (SqL.of upd_same) (DpAll.mono s1 _ _ h5)) trivial⟩
theorem Er.frz2 {st n I0 H0 I H σ e} {i : Nat} {t : Bool} {kvs : List (PyData × PyData)} (x : Xt st n I0 H0 I H) (E : Er K st H0 I H σ e) (q : e[i]? = some (some (.tab t kvs))) : ∃ I', Xt st n I0 H0 I' H ∧ Same I I' ∧ Er K st H0 I' H σ (e.set i (some (.ktab t kvs))) := by
  obtain ⟨v, h1, ⟨p, o, ev, h2, h3, h4, h5⟩, h6⟩ := E.at_ i _ q
  subst ev
  have p0 : H0 p = none := h6 p rfl
  have s1 : Same I (upd I p (rawO p o)) := same_new h3
  exact ⟨_, x.freezeO p0 h4 h2 rawO_tup, s1, E.change (sv2 := .ktab t kvs) x q rfl h1 s1 (fun b hb => upd_ne hb) (fun _ _ => rfl) ⟨p, o, rfl, upd_same, h5.mono s1⟩ trivial⟩
theorem Er.frz {st n I0 H0 I H σ e} (x : Xt st n I0 H0 I H) (E : Er K st H0 I H σ e) : ∀ is : List Nat, ∃ I', Xt st n I0 H0 I' H ∧ Same I I' ∧ Er K st H0 I' H σ (frzE e is)
  | [] => ⟨I, x, Same.refl _, E⟩
  | i :: is => by
    obtain ⟨I1, x1, t1, E1⟩ := Er.frz x E is
    unfold frzE
    split
    · rename_i xs q
      obtain ⟨I2, x2, t2, E2⟩ := E1.frz1 x1 q
      exact ⟨I2, x2, t1.trans t2, E2⟩
    · rename_i t kvs q
      obtain ⟨I2, x2, t2, E2⟩ := E1.frz2 x1 q
      exact ⟨I2, x2, t1.trans t2, E2⟩
    · exact ⟨I1, x1, t1, E1⟩
def sFrz (is : List Nat) (a : FS) : FS := fun e n => a (frzE e is) n
theorem s_frz {is : List Nat} (h : PS X s (tSs X.kw a)) : PS X s (tSs X.kw (sFrz is a)) := h.by fun D σ H ⟨st, n, I0, H0, I, e, x, E, fl, e', n', q, k⟩ => by
  obtain ⟨I1, x1, t1, E1⟩ := E.frz x is
  exact ⟨st, n, I0, H0, I1, _, x1, E1, fl, e', n', q, Fin.up t1 k⟩
/-! ### lists of one's own -/
def cellAt (e : Ev) (i : Nat) : Option (List PyData) := match e[i]? with
  | some (some (.cell xs)) => some xs
  | _ => none
theorem cellAt_eq {e : Ev} {i : Nat} {xs : List PyData} (h : cellAt e i = some xs) : e[i]? = some (some (.cell xs)) := by
  unfold cellAt at h
  split at h
  · rename_i q; cases h; exact q
  · cases h
/-- the list in slot i becomes another one -/
theorem Er.put {st n I0 H0 I H σ e} {i : Nat} {xs ys : List PyData} {p : Addr} {us : List V} (x : Xt st n I0 H0 I H) (E : Er K st H0 I H σ e) (q : e[i]? = some (some (.cell xs))) (hp : σ[i]? = some (some (.ref p))) (hd : DpAll K I us ys) :
    Xt st n I0 H0 I (upd H p (.lst us)) ∧ Er K st H0 I (upd H p (.lst us)) σ (e.set i (some (.cell ys))) := by
  obtain ⟨v, h1, ⟨p', vs, ev, h2, h3, h4, h5⟩, h6⟩ := E.at_ i _ q
  rw [hp] at h1
  cases h1
  cases ev
  have p0 : H0 p = none := h6 p rfl
  exact ⟨x.put p0 h3 h4, E.change (sv2 := .cell ys) x q rfl hp (Same.refl _) (fun _ _ => rfl) (fun b hb => upd_ne hb) ⟨p, us, rfl, upd_same, h3, h4, hd⟩ h6⟩
/-- the dict in slot i becomes another one -/
theorem Er.putT {st n I0 H0 I H σ e} {i : Nat} {t : Bool} {kvs kvs2 : List (PyData × PyData)} {p : Addr} {o : Obj} (x : Xt st n I0 H0 I H) (E : Er K st H0 I H σ e) (q : e[i]? = some (some (.tab t kvs))) (hp : σ[i]? = some (some (.ref p))) (hd : TabR K I p o t kvs2) :
    Xt st n I0 H0 I (upd H p (rawO p o)) ∧ Er K st H0 I (upd H p (rawO p o)) σ (e.set i (some (.tab t kvs2))) := by
  obtain ⟨v, h1, ⟨p', vs, ev, h2, h3, h4, h5⟩, h6⟩ := E.at_ i _ q
  rw [hp] at h1
  cases h1
  cases ev
  have p0 : H0 p = none := h6 p rfl
  exact ⟨x.putO p0 h3 h4 rawO_tup, E.change (sv2 := .tab t kvs2) x q rfl hp (Same.refl _) (fun _ _ => rfl) (fun b hb => upd_ne hb) ⟨p, o, rfl, upd_same, h3, h4, hd⟩ h6⟩
def sApp (i : Nat) (f : FE) : FS := fun e n => match f e n with
  | none => none
  | some (sv, n1) => match sv.take, cellAt e i with
    | some y, some xs => if xs.length < big then some (.nx, e.set i (some (.cell (xs ++ [y]))), n1) else none
    | _, _ => none
theorem s_app {i : Nat} (h : PS X s (tDrop (tBM X.K "list" rAppend (tVar i) (tCons (tE X.kw f) tNil)))) : PS X s (tSs X.kw (sApp i f)) := h.by fun D σ H ⟨st, n, I0, H0, I, e, x, E, fl, e', n', q, k⟩ => by
  unfold sApp at q
  split at q
  · cases q
  · rename_i sv n1 q1
    split at q
    · rename_i y xs q2 q3
      split at q
      · rename_i hl
        cases q
        obtain ⟨v, h1, ⟨p, vs, ev, h2, h3, h4, h5⟩, h6⟩ := E.at_ i _ (cellAt_eq q3)
        subst ev
        refine ⟨.ref p, h1, .inl ⟨rfl, _, SqL.of h2⟩, st, n, H0, I, e, x.w, E, sv, _, q1, fun w I1 H1 x1 r1 f1 => ?_⟩
        obtain ⟨I2, x2, _, k2⟩ := SvR.keep x1 r1 f1 q2
        have hp2 := x2.hh p _ h4 h2
        refine ⟨p, vs, w, rfl, rfl, hp2, by rw [DpAll.len h5]; exact Nat.lt_trans hl (by decide), ?_⟩
        obtain ⟨x3, E3⟩ := Er.put (x.trans x2) (E.mono x2) (cellAt_eq q3) h1 (DpAll.app (DpAll.mono x2.ii _ _ h5) (.cons k2 .nil))
        exact k σ I2 _ x3 E3 x2.ii
      · cases q
    · cases q
/-- a.append(b.pop(e)) -/
def sAppPop (i j : Nat) (f : FE) : FS := fun e n => match f e n with
  | some (.d (.int c), n1) => (match cellAt e i, cellAt e j with
    | some xs, some ys => (match seqIndex? c ys.length with
      | some k => (match ys[k]? with
        | some y => if i ≠ j ∧ xs.length < big ∧ smallI c = true then some (.nx, (e.set j (some (.cell (ys.eraseIdx k)))).set i (some (.cell (xs ++ [y]))), n1) else none
        | none => none)
      | none => none)
    | _, _ => none)
  | _ => none
theorem DpAll.erase {I : Hp} : ∀ {vs : List V} {ds : List PyData} (k : Nat), DpAll K I vs ds → DpAll K I (vs.eraseIdx k) (ds.eraseIdx k)
  | [], _, _, h => by cases h; exact .nil
  | _ :: _, _, 0, h => by
    cases h with
    | cons _ h2 => exact h2
  | _ :: _, _, k + 1, h => by
    cases h with
    | cons h1 h2 => exact .cons h1 (DpAll.erase k h2)
theorem s_appPop {i j : Nat} (h : PS X s (tDrop (tBM X.K "list" rAppend (tVar i) (tCons (tBM X.K "list" rPopAt (tVar j) (tCons (tE X.kw f) tNil)) tNil)))) : PS X s (tSs X.kw (sAppPop i j f)) := h.by fun D σ H ⟨st, n, I0, H0, I, e, x, E, fl, e', n', q, k⟩ => by
  unfold sAppPop at q
  split at q
  · rename_i c n1 q1
    split at q
    · rename_i xs ys q3 q4
      split at q
      · rename_i m q5
        split at q
        · rename_i y q6
          split at q
          · rename_i hc
            obtain ⟨hij, hl, hs⟩ := hc
            cases q
            obtain ⟨v, h1, ⟨p, vs, ev, h2, h3, h4, h5⟩, h6⟩ := E.at_ i _ (cellAt_eq q3)
            obtain ⟨v', g1, ⟨p', us, ev', g2, g3, g4, g5⟩, g6⟩ := E.at_ j _ (cellAt_eq q4)
            subst ev
            subst ev'
            have hpp : p ≠ p' := fun z => E.ap i j (.cell xs) (.cell ys) p hij (cellAt_eq q3) (cellAt_eq q4) rfl rfl h1 (by rw [z]; exact g1)
            refine ⟨.ref p, h1, .inl ⟨rfl, _, SqL.of h2⟩, .ref p', g1, .inl ⟨rfl, _, SqL.of g2⟩, st, n, H0, I, e, x.w, E, _, _, q1, fun w I1 H1 x1 r1 f1 => ?_⟩
            cases r1
            have g2' := x1.hh p' _ g4 g2
            have h2' := x1.hh p _ h4 h2
            have g5' := DpAll.mono x1.ii _ _ g5
            have h5' := DpAll.mono x1.ii _ _ h5
            obtain ⟨u, eu, ku⟩ := DpAll.got g5' q6
            refine ⟨p', us, c, m, u, rfl, rfl, g2', ?_, ?_, by rw [DpAll.len g5]; exact q5, eu, ?_⟩
            · have := (small_of hs).1; omega
            · have := (small_of hs).2; omega
            · have E1 := E.mono x1
              have xx := x.trans x1
              obtain ⟨x2, E2⟩ := Er.put xx E1 (cellAt_eq q4) g1 (DpAll.erase m g5')
              have h2'' : upd H1 p' (.lst (us.eraseIdx m)) p = some (.lst vs) := by rw [upd_ne hpp]; exact h2'
              refine ⟨p, vs, u, rfl, rfl, h2'', by rw [DpAll.len h5]; exact Nat.lt_trans hl (by decide), ?_⟩
              have q3' : (e.set j (some (.cell (ys.eraseIdx m))))[i]? = some (some (.cell xs)) := by rw [List.getElem?_set_ne (Ne.symm hij)]; exact cellAt_eq q3
              obtain ⟨x3, E3⟩ := Er.put x2 E2 q3' h1 (DpAll.app h5' (.cons ku .nil))
              exact k σ I1 _ x3 E3 x1.ii
          · cases q
        · cases q
      · cases q
    · cases q
  · cases q
/-- the state of draws grows -/
def sDraw (i : Nat) : FS := fun e n => match e[i]? with
  | some (some .st) => if n < big then some (.nx, e, n + 1) else none
  | _ => none
theorem st_draw {i : Nat} (h : PS X s (tDrop (tBM X.K "list" rAppend (tVar i) (tCons (tC (.int 0)) tNil)))) : PS X s (tSs X.kw (sDraw i)) := h.by fun D σ H ⟨st, n, I0, H0, I, e, x, E, fl, e', n', q, k⟩ => by
  unfold sDraw at q
  split at q
  · rename_i q1
    split at q
    · rename_i hl
      cases q
      obtain ⟨v, h1, h2, _⟩ := E.at_ i _ q1
      obtain ⟨rfl, _⟩ := h2
      have hs := x.w.lst (Nat.le_of_lt hl)
      refine ⟨.ref st.a, h1, .inl ⟨rfl, _, SqL.of hs⟩, st.a, _, .int 0, rfl, rfl, hs, by rw [List.length_replicate]; exact Nat.lt_trans hl (by decide), ?_⟩
      exact k σ I _ (x.trans (Xt.draw x.w hl)) (E.mono (Xt.draw x.w hl)) (Same.refl _)
    · cases q
  · cases q
/-! len, of the state too -/
def lenS (fa : FA) : FE := fun e n => match fa e n with
  | some ([.st], n1) => if n1 ≤ big then some (.d (.int n1), n1) else none
  | some (as, n1) => (match see1 lenG as with
    | some r => some (r, n1)
    | none => none)
  | none => none
theorem e_len {e0 : Expr} (h : PE X e0 (tCB (rLenA X.kw) (tAs X.kw fa))) : PE X e0 (tE X.kw (lenS fa)) := h.by fun σ H Q ⟨st, n, H0, I, ev, w, E, sv, n', q, k⟩ => by
  unfold lenS at q
  split at q
  · rename_i n1 q1
    split at q
    · rename_i hb
      cases q
      refine ⟨st, n, H0, I, ev, w, E, _, _, q1, fun vs I1 H1 x1 r1 => ?_⟩
      cases r1 with
      | cons h1 _ h2 =>
        cases h2
        obtain ⟨rfl, _⟩ := h1
        exact .inl ⟨st.a, _, rfl, .inl (SqL.of (x1.w.lst hb)), by rw [List.length_replicate]; exact k _ I1 H1 x1 (.int _) trivial⟩
    · cases q
  · rename_i as n1 _ q1
    split at q
    · rename_i rr q2
      cases q
      exact ⟨st, n, H0, I, ev, w, E, as, _, q1, fun vs I1 H1 x1 r1 => cd_lenA st _ I1 H1 vs as sv Q x1.w r1 q2 fun v I2 H2 x2 r2 f2 => k v I2 H2 (x1.trans x2) r2 (Fr.back x1 r2 f2)⟩
    · cases q
  · cases q
end
end Sb
/-! P6: loops, defs, the law. -/
namespace Sb
open PySem PySem.Spec PyProof.Rows L2
section
variable {X : Cx} {s : Stmt} {ss : List Stmt} {e : Expr} {f g : FE} {fa : FA} {ft : FT} {a b : FS} {K : KW}
def forL (tg : FG) (wp : List Nat) (body : FS) : List PyData → Ev → Nat → Option (Fl × Ev × Nat)
  | [], e, n => some (.nx, e, n)
  | x :: xs, e, n => match tg x e with
    | none => none
    | some e1 => match body e1 n with
      | none => none
      | some (.nx, e2, n2) => forL tg wp body xs (wipeE e2 wp) n2
      | some (.ct, e2, n2) => forL tg wp body xs (wipeE e2 wp) n2
      | some (.bk, e2, n2) => some (.nx, wipeE e2 wp, n2)
      | some (.rt v, e2, n2) => some (.rt v, e2, n2)
def sFor (it : FI) (tg : FG) (wp : List Nat) (body : FS) : FS := fun e n => match it e n with
  | none => none
  | some (xs, n1) => if xs.length ≤ big then forL tg wp body xs e n1 else none
theorem s_for {g : TG} {tg : FG} {sl wp : List Nat} {it : FI} (hg : GDo X.kw g tg sl) (h : PS X s (tFor (tIs X.kw false it) g (tSs X.kw a))) : PS X s (tSs X.kw (sFor it tg wp a)) := h.by fun D σ H ⟨st, n, I0, H0, I, e, x, E, fl, e', n', q, k⟩ => by
  unfold sFor at q
  split at q
  · cases q
  · rename_i xs n1 q1
    split at q
    · rename_i hl
      refine ⟨st, n, H0, I, e, x.w, E, xs, n1, q1, hl, fun J I1 H1 x1 ⟨G, Y, wk, hG, hY⟩ => ?_⟩
      refine for_it wk (fun i σ H => ∃ I' m ev, Xt st m I0 H0 I' H ∧ Er X.kw st H0 I' H σ ev ∧ Same I1 I' ∧ forL tg wp a (xs.drop i) ev m = some (fl, e', n'))
        ⟨I1, n1, e, x.trans x1, E.mono x1, Same.refl _, q⟩ ?_ ?_ ?_
      · rintro i σ' H' _ ⟨I', m, ev, x2, E2, s2, _⟩
        exact hG m I' H' x2.w s2 (fun z => nomatch z)
      · rintro i y σ' H' H'' hi ⟨I', m, ev, x2, E2, s2, q2⟩ yy
        obtain ⟨I2, d, e1, x3, kd⟩ := hY m I' H' i y H'' x2.w s2 (fun z => nomatch z) hi yy
        have hdr : xs.drop i = d :: xs.drop (i + 1) := by
          rw [List.drop_eq_getElem_cons hi]
          congr 1
          rw [List.getElem?_eq_getElem hi] at e1
          exact Option.some.inj e1
        rw [hdr] at q2
        unfold forL at q2
        split at q2
        · cases q2
        · rename_i ev1 p1
          refine hg st H0 m I2 H'' σ' ev y d ev1 _ x3.w (E2.mono x3) kd p1 fun σ2 E4 _ _ => ?_
          have x23 := x2.trans x3
          split at q2
          · cases q2
          · rename_i ev2 m2 p2
            exact ⟨st, m, I0, H0, I2, ev1, x23, E4, .nx, ev2, m2, p2, fun σ5 I5 H5 x5 E5 s5 => ⟨I5, m2, _, x5, E5.wipeE wp, (s2.trans x3.ii).trans s5, q2⟩⟩
          · rename_i ev2 m2 p2
            exact ⟨st, m, I0, H0, I2, ev1, x23, E4, .ct, ev2, m2, p2, fun σ5 I5 H5 x5 E5 s5 => ⟨I5, m2, _, x5, E5.wipeE wp, (s2.trans x3.ii).trans s5, q2⟩⟩
          · rename_i ev2 m2 p2
            cases q2
            exact ⟨st, m, I0, H0, I2, ev1, x23, E4, .bk, ev2, _, p2, fun σ5 I5 H5 x5 E5 s5 => k σ5 I5 H5 x5 (E5.wipeE wp) ((x1.ii.trans (s2.trans x3.ii)).trans s5)⟩
          · rename_i v ev2 m2 p2
            cases q2
            exact ⟨st, m, I0, H0, I2, ev1, x23, E4, .rt v, _, _, p2, fun w I5 H5 x5 r5 f5 => k w I5 H5 x5 r5 f5⟩
      · rintro σ' H' ⟨I', m, ev, x2, E2, s2, q2⟩
        rw [List.drop_length] at q2
        unfold forL at q2
        cases q2
        exact k σ' I' H' x2 E2 (x1.ii.trans s2)
    · cases q
/-! while: at most so many turns -/
def whL (t : FT) (wp : List Nat) (body : FS) : Nat → Ev → Nat → Option (Fl × Ev × Nat)
  | 0, _, _ => none
  | j + 1, e, n => match t e n with
    | none => none
    | some (false, n1) => some (.nx, e, n1)
    | some (true, n1) => match body e n1 with
      | none => none
      | some (.nx, e2, n2) => whL t wp body j (wipeE e2 wp) n2
      | some (.ct, e2, n2) => whL t wp body j (wipeE e2 wp) n2
      | some (.bk, e2, n2) => some (.nx, wipeE e2 wp, n2)
      | some (.rt v, e2, n2) => some (.rt v, e2, n2)
def sWhile (t : FT) (wp : List Nat) (body : FS) (fuel : Nat) : FS := fun e n => whL t wp body fuel e n
theorem s_while {wp : List Nat} {fuel : Nat} (h : PS X s (tWhile (tTs X.kw ft) (tSs X.kw a))) : PS X s (tSs X.kw (sWhile ft wp a fuel)) := h.by fun D σ H ⟨st, n, I0, H0, I, e, x, E, fl, e', n', q, k⟩ => by
  unfold sWhile at q
  refine ⟨fun j σ H => ∃ I' m ev, Xt st m I0 H0 I' H ∧ Er X.kw st H0 I' H σ ev ∧ Same I I' ∧ whL ft wp a j ev m = some (fl, e', n'), ⟨fuel, I, n, e, x, E, Same.refl _, q⟩, ?_⟩
  rintro j σ1 H1 ⟨I1, m, ev, x1, E1, s1, q1⟩
  cases j with
  | zero => unfold whL at q1; cases q1
  | succ j =>
    unfold whL at q1
    split at q1
    · cases q1
    · rename_i m1 p1
      cases q1
      refine ⟨st, m, H0, I1, _, x1.w, E1, false, _, p1, fun I2 H2 x2 => ?_⟩
      dsimp only
      rw [if_neg Bool.false_ne_true]
      exact k σ1 I2 H2 (x1.trans x2) (E1.mono x2) (s1.trans x2.ii)
    · rename_i m1 p1
      refine ⟨st, m, H0, I1, ev, x1.w, E1, true, m1, p1, fun I2 H2 x2 => ?_⟩
      dsimp only
      rw [if_pos rfl]
      refine ⟨fun σ' H' => ∃ I' m ev, Xt st m I0 H0 I' H' ∧ Er X.kw st H0 I' H' σ' ev ∧ Same I I' ∧ whL ft wp a j ev m = some (fl, e', n'), fun σ' H' z => ⟨j, Nat.lt_succ_self _, z⟩, ?_⟩
      have x12 := x1.trans x2
      have E2 := E1.mono x2
      have s2 := s1.trans x2.ii
      split at q1
      · cases q1
      · rename_i ev2 m2 p2
        exact ⟨st, m1, I0, H0, I2, ev, x12, E2, .nx, ev2, m2, p2, fun σ5 I5 H5 x5 E5 s5 => ⟨I5, m2, _, x5, E5.wipeE wp, s2.trans s5, q1⟩⟩
      · rename_i ev2 m2 p2
        exact ⟨st, m1, I0, H0, I2, ev, x12, E2, .ct, ev2, m2, p2, fun σ5 I5 H5 x5 E5 s5 => ⟨I5, m2, _, x5, E5.wipeE wp, s2.trans s5, q1⟩⟩
      · rename_i ev2 m2 p2
        cases q1
        exact ⟨st, m1, I0, H0, I2, ev, x12, E2, .bk, ev2, _, p2, fun σ5 I5 H5 x5 E5 s5 => k σ5 I5 H5 x5 (E5.wipeE wp) (s2.trans s5)⟩
      · rename_i v ev2 m2 p2
        cases q1
        exact ⟨st, m1, I0, H0, I2, ev, x12, E2, .rt v, _, _, p2, fun w I5 H5 x5 r5 f5 => k w I5 H5 x5 r5 f5⟩
end
/-! ### defs -/
def argsE (N np : Nat) (as : List Sv) : Ev := as.map some ++ List.replicate (N - np) none
def runF (N np : Nat) (body : FS) : FF := fun as n => if as.length = np then match body (argsE N np as) n with
    | some (.nx, _, n') => some (.d .none, n')
    | some (.rt v, _, n') => some (v, n')
    | _ => none
  else none
section
variable {K : KW}
theorem argsR_get {st I H} : ∀ {vs : List V} {as : List Sv} {i : Nat} {sv : Sv}, ArgsR K st I H vs as → as[i]? = some sv → ∃ v, vs[i]? = some v ∧ SvR K st I H v sv ∧ sv.loose = false
  | _, _, _, _, .nil, h => by simp at h
  | _, _, 0, sv, .cons h1 h2 h3, h => by
    simp at h
    subst h
    exact ⟨_, rfl, h1, h2⟩
  | _, _, i + 1, sv, .cons h1 h2 h3, h => by
    obtain ⟨v, g⟩ := argsR_get (i := i) h3 (by simpa using h)
    exact ⟨v, by simpa using g⟩
theorem er_start {st : Stt} {I H : Hp} {N : List Str} {vs : List V} {as : List Sv} {np : Nat} (ra : ArgsR K st I H vs as) (hn : as.length = np) : Er K st H I H (L2.start N vs) (argsE N.length np as) := by
  have hl := ra.len
  have gone : ∀ (i : Nat) (sv : Sv), (argsE N.length np as)[i]? = some (some sv) → i < as.length ∧ as[i]? = some sv := fun i sv h => by
    unfold argsE at h
    by_cases hi : i < as.length
    · rw [List.getElem?_append_left (by simpa using hi), List.getElem?_map] at h
      cases q : as[i]? with
      | none => rw [q] at h; cases h
      | some z => rw [q] at h; cases h; exact ⟨hi, rfl⟩
    · rw [List.getElem?_append_right (by simpa using hi), List.getElem?_replicate] at h
      split at h <;> cases h
  refine ⟨?_, fun i sv h => ?_, fun i j xs ys p _ h _ lo _ _ => ?_⟩
  · unfold L2.start argsE
    rw [List.length_append, List.length_append, List.length_map, List.length_map, List.length_replicate, List.length_replicate]
    omega
  · obtain ⟨hi, e⟩ := gone i sv h
    obtain ⟨v, g1, g2, g3⟩ := argsR_get ra e
    refine ⟨v, ?_, g2, ?_⟩
    · unfold L2.start
      rw [List.getElem?_append_left (by rw [List.length_map, hl]; exact hi), List.getElem?_map, g1]
      rfl
    · cases sv with
      | d _ => trivial
      | cell xs => cases g3
      | tab _ _ => cases g3
      | xc _ => cases g3
      | xt _ => trivial
      | kn _ => trivial
      | ktab _ _ => trivial
      | btab t kvs =>
        obtain ⟨p, us, e1, h1, _⟩ := g2
        intro p' e'
        have : p' = p := V.ref.inj (e'.symm.trans e1)
        rw [this, h1]
        rfl
      | bor xs =>
        obtain ⟨p, us, e1, h1, _⟩ := g2
        intro p' e'
        have : p' = p := V.ref.inj (e'.symm.trans e1)
        rw [this, h1]
        rfl
      | st => trivial
  · obtain ⟨_, e⟩ := gone i _ h
    obtain ⟨_, _, _, g3⟩ := argsR_get ra e
    rw [g3] at lo
    cases lo
end
section
variable {P : Program} {w : World} {K : PySem.W.Frag} {mg : Str → Option Value} {base : Heap}
theorem fn_pi {x qual : Str} {st : Stmt} {f : Addr} {fd : FuncData} {N ps : List Str} {k : Nat} {body : FS} (F : Fun K x qual st f fd) (S : FnScope N ps (defScope st))
    (hb : ∀ (cdv : Value) (A : Around) (outer : List Env) (s : Shared) (H : Hp) (E : XK), Room k (A.deeper (envOfC qual (defScope st) s.heap.objs.size f cdv)) → PSs (cxOf CX0 P w K mg base N qual (defScope st) f cdv A outer s H E).nox (defBody st) (tSs ⟨K, P, w⟩ body)) :
    FnOk P w K mg base CX0 (k + 1) f fd ps (spF ⟨K, P, w⟩ ps.length (runF N.length ps.length body)) := by
  refine F.ok S (fun vs H Q E h => h.1) (fun cdv A outer s H vs Q E hr h => ⟨_, hb cdv A outer s H E hr, ?_⟩)
  obtain ⟨_, stt, n, I, as, w1, ra, sv, n', q, k⟩ := h
  unfold runF at q
  split at q
  · rename_i hn
    split at q
    · rename_i e' m q1
      cases q
      exact ⟨stt, n, I, H, I, _, .refl w1, er_start ra hn, .nx, e', _, q1, fun σ' I' H' x' _ _ => k .non I' H' x' .non trivial⟩
    · rename_i v e' m q1
      cases q
      exact ⟨stt, n, I, H, I, _, .refl w1, er_start ra hn, .rt _, e', _, q1, fun v I' H' x' r' f' => k v I' H' x' r' f'⟩
    · cases q
  · cases q
/-! ### the law -/
def scriptD (ns : List Int) : PyData := .list (ns.map PyData.int)
def spLaw (K : PySem.W.Frag) : Sp := fun vs H Q _ => ∃ (a : Addr) (ns : List Int), vs = [.ref a] ∧ Only H ∧ SqL K H a (ns.map V.int) ∧ ns.length ≤ 63 ∧ ∀ H', Q (.bl true) H'
theorem law_pi {x qual : Str} {st : Stmt} {f : Addr} {fd : FuncData} {N : List Str} {k i : Nat} {body : FS} (F : Fun K x qual st f fd) (S : FnScope N ["_law_script"] (defScope st)) (hi : i ≠ 0) (hN : 1 ≤ N.length)
    (hm : ∀ ns : List Int, ns.length ≤ 63 → ∃ e' n', body ((argsE N.length 1 [.d (scriptD ns)]).set i (some .st)) 0 = some (.rt (.d (.bool true)), e', n'))
    (hb : ∀ (cdv : Value) (A : Around) (outer : List Env) (s : Shared) (H : Hp) (E : XK), Room k (A.deeper (envOfC qual (defScope st) s.heap.objs.size f cdv)) → PSs (cxOf CX0 P w K mg base N qual (defScope st) f cdv A outer s H E).nox (defBody st) (tSeq (tAsg (tLst tNil) (gName i)) (tSs ⟨K, P, w⟩ body))) :
    FnOk P w K mg base CX0 (k + 1) f fd ["_law_script"] (spLaw K) := by
  refine F.ok S (fun vs H Q E h => ?_) (fun cdv A outer s H vs Q E hr h => ⟨_, hb cdv A outer s H E hr, ?_⟩)
  · obtain ⟨a, ns, rfl, _⟩ := h
    rfl
  · obtain ⟨a, ns, rfl, hO, hS, hl, q⟩ := h
    refine ⟨Nat.zero_le _, fun p hp => ?_⟩
    obtain ⟨e', n', q1⟩ := hm ns hl
    have W : Wr ⟨p, ⟨K, P, w⟩⟩ 0 H (upd H p (.lst [])) := ⟨⟨same_new hp, fun b xs e => by
      by_cases z : b = p
      · subst z
        rw [upd_same] at e
        cases e
      · rw [upd_ne z] at e
        exact e⟩, hp, ⟨_, upd_same, StS.of (Nat.zero_le _)⟩⟩
    have hd : Dp K H (.ref a) (scriptD ns) := .lst hS (DpAll.ints ns)
    have ra : ArgsR ⟨K, P, w⟩ ⟨p, ⟨K, P, w⟩⟩ H (upd H p (.lst [])) [.ref a] [.d (scriptD ns)] := .cons hd rfl .nil
    have E0 := er_start (N := N) ra (np := 1) rfl
    have E1 : Er ⟨K, P, w⟩ ⟨p, ⟨K, P, w⟩⟩ (upd H p (.lst [])) H (upd H p (.lst [])) ((L2.start N [.ref a]).set i (some (.ref p))) ((argsE N.length 1 [.d (scriptD ns)]).set i (some .st)) := E0.set i (sv := .st) ⟨rfl, rfl⟩ trivial (fun _ _ _ z => nomatch z)
    exact ⟨⟨p, ⟨K, P, w⟩⟩, 0, H, _, H, _, .refl W, E1, .rt _, e', n', q1, fun v I' H' x' r' f' => by cases r'; exact q H'⟩
end
end Sb
namespace Sb
open PySem PySem.Spec PyProof.Rows L2
/-! ### sets of tuples of texts and ints: the small questions (begun) -/
section
variable {P : Program} {w : World} {A : Around} {E : Value → Shared → Prop} {s : Shared}
abbrev MT (P : Program) (w : World) (h : Heap) (k : List Key) (b : Addr) : Prop := IsTupleKey (mixKind P w) h k b
/-! ### the set, and the search in it -/
def mh (P : Program) (w : World) (k : List Key) : Int := tupleKeyHash (mixKind P w) k
def entX (P : Program) (w : World) (q : Addr × List Key) : Int × Value := (mh P w q.2, .ref q.1)
structure SX (P : Program) (w : World) (h : Heap) (a : Addr) (L : List (Addr × List Key)) (es : Array (Int × Value)) (ep : Nat) (t : SetTable) : Prop where
  here : ∃ o, h.get? a = some o ∧ o.ExactSet ∧ o.data = .set es ep t
  ents : es.toList = L.map (entX P w)
  tab : TabOk t (L.map fun q => mh P w q.2)
  once : (L.map Prod.snd).Nodup
  keys : ∀ q ∈ L, MT P w h q.2 q.1
  led : w.params.followText "set-order" = true ∨ t.led = true
  room : L.length * 5 < t.mask * 3
  few : L.length < 64
variable {a : Addr} {L : List (Addr × List Key)} {es : Array (Int × Value)} {ep : Nat} {t : SetTable}
theorem SX.size (R : SX P w s.heap a L es ep t) : es.size = L.length := by
  rw [← Array.length_toList, R.ents, List.length_map]
theorem SX.at (R : SX P w s.heap a L es ep t) {i : Nat} {q : Addr × List Key} (h : L[i]? = some q) : es[i]? = some (entX P w q) := by
  rw [← Array.getElem?_toList, R.ents, List.getElem?_map, h]
  rfl
/-! ### the table laid anew -/
/-! ### adding -/
/-! ### a whole list of them -/
structure Seen (ks : List (Addr × List Key)) (i : Nat) (L : List (Addr × List Key)) : Prop where
  sub : ∀ q ∈ L, q ∈ ks
  all : ∀ j p, j < i → ks[j]? = some p → p.2 ∈ L.map Prod.snd
  len : L.length ≤ i
theorem Seen.next {ks L : List (Addr × List Key)} {i : Nat} {p : Addr × List Key} (g : Seen ks i L) (h : ks[i]? = some p) (m : p.2 ∈ L.map Prod.snd) : Seen ks (i + 1) L :=
  ⟨g.sub, fun j q hj e => by
    rcases Nat.lt_succ_iff_lt_or_eq.mp hj with l | rfl
    · exact g.all j q l e
    · rw [h] at e
      cases e
      exact m, Nat.le_succ_of_le g.len⟩
theorem Seen.put {ks L L' : List (Addr × List Key)} {i : Nat} {p : Addr × List Key} (g : Seen ks i L) (h : ks[i]? = some p) (pm : L'.Perm (p :: L)) : Seen ks (i + 1) L' := by
  have mm : ∀ k, k ∈ L'.map Prod.snd ↔ k = p.2 ∨ k ∈ L.map Prod.snd := fun k => by rw [(pm.map Prod.snd).mem_iff, List.map_cons, List.mem_cons]
  refine ⟨fun q hq => ?_, fun j q hj e => (mm _).mpr ?_, by rw [pm.length_eq]; exact Nat.succ_le_succ g.len⟩
  · rcases List.mem_cons.mp (pm.mem_iff.mp hq) with rfl | hq
    · exact List.mem_of_getElem? h
    · exact g.sub q hq
  · rcases Nat.lt_succ_iff_lt_or_eq.mp hj with l | rfl
    · exact .inr (g.all j q l e)
    · rw [h] at e
      cases e
      exact .inl rfl
end
end Sb
/-! P7: a module's dict of ints, a written dict asked at once, list(range), sorted(set(..)). -/
namespace Sb
open PySem PySem.Spec PyProof.Rows L2
section
variable {X : Cx} {e : Expr} {f g : FE} {fa : FA}
/-! ### a module's dict of texts to ints -/
def fInM (neg : Bool) (m : List (Str × Int)) (f : FE) : FE := fun e n => match f e n with
  | some (.d (.str z), n1) => some (.d (.bool ((lookM m z).isSome != neg)), n1)
  | _ => none
def fIxM (m : List (Str × Int)) (f : FE) : FE := fun e n => match f e n with
  | some (.d (.str z), n1) => (match lookM m z with
    | some i => some (.d (.int i), n1)
    | none => none)
  | _ => none
theorem e_ixM {p : Addr} {m : List (Str × Int)} (D : KDm X.K X.w p m) (h : PE X e (tOp (rIxDm X.K X.w) (tC (.ref p)) (tE X.kw f))) : PE X e (tE X.kw (fIxM m f)) := h.by fun σ H Q ⟨st, n, H0, I, ev, w, E, sv, n', q, k⟩ => by
  unfold fIxM at q
  split at q
  · rename_i z n1 q1
    split at q
    · rename_i i q2
      cases q
      refine ⟨st, n, H0, I, ev, w, E, _, _, q1, fun v I1 H1 x1 r1 _ => ?_⟩
      cases r1
      exact ⟨p, z, m, i, rfl, rfl, D, q2, k _ I1 H1 x1 (.int _) trivial⟩
    · cases q
  · cases q
/-! ### {..}.get(key, other) -/
theorem Xt.other {st n I H p o} (w : Wr st n I H) (hp : H p = none) (ho : ∀ xs, o ≠ .tup xs) : Xt st n I H I (upd H p o) := by
  have hs := w.ne_st hp
  refine ⟨⟨⟨fun b x h => ?_, fun b xs h => ?_⟩, w.ist, w.up (Same.refl _) fun o h => by rw [upd_ne hs.symm]; exact h⟩, Same.refl _, fun b u _ h => same_new hp _ _ h, fun _ _ _ => rfl⟩
  · exact same_new hp _ _ (w.im.sub _ _ h)
  · by_cases z : b = p
    · subst z
      rw [upd_same] at h
      exact absurd (Option.some.inj h) (ho xs)
    · rw [upd_ne z] at h
      exact w.im.tup _ _ h
def litT (m : List (Str × Int)) : List (TE × TE) := m.map fun p => (tC (.str p.1), tC (.int p.2))
def litKV (m : List (Str × Int)) : List (Key × V) := m.map fun p => (Sum.inr p.1, V.int p.2)
theorem lit_pairs : ∀ (m : List (Str × Int)) (σ : L2.St) (H : Hp) (Q : List (V × V) → Hp → Prop), Q ((litKV m).map fun kv => (kV kv.1, kv.2)) H → tPairs (litT m) σ H Q
  | [], _, _, _, h => h
  | p :: m, σ, H, Q, h => lit_pairs m σ H (fun ps H' => Q ((V.str p.1, V.int p.2) :: ps) H') h
def fGetLit (m : List (Str × Int)) (f g : FE) : FE := fun e n => match f e n with
  | some (.d (.str z), n1) => (match g e n1 with
    | some (.d (.int y), n2) => if m.length ≤ 15 then (match valV (mergeK [] (litKV m)) (Sum.inr z) with
        | some (.int i) => some (.d (.int i), n2)
        | none => some (.d (.int y), n2)
        | _ => none) else none
    | _ => none)
  | _ => none
theorem e_getLit {m : List (Str × Int)} (h : PE X e (tDGet2 (tDisp (litT m)) (tE X.kw f) (tE X.kw g))) : PE X e (tE X.kw (fGetLit m f g)) := h.by fun σ H Q ⟨st, n, H0, I, ev, w, E, sv, n', q, k⟩ => by
  unfold fGetLit at q
  split at q
  · rename_i z n1 q1
    split at q
    · rename_i y n2 q2
      split at q
      · rename_i hl
        intro p hp
        refine lit_pairs m σ _ _ ⟨upd_same, litKV m, rfl, by unfold litKV; rw [List.length_map]; exact hl, ?_⟩
        rw [upd_upd]
        have x0 : Xt st n I H I (upd H p (.dK (mergeK [] (litKV m)))) := Xt.other w hp (fun _ z => nomatch z)
        refine ⟨p, rfl, .inl ⟨_, .inl upd_same⟩, ?_⟩
        have hs := w.ne_st hp
        refine ⟨st, n, H0, I, ev, x0.w, E.mono x0, _, n1, q1, fun v I1 H1 x1 r1 _ => ⟨st, n1, H0, I1, ev, x1.w, (E.mono x0).mono x1, _, n2, q2, fun v2 I2 H2 x2 r2 _ => ?_⟩⟩
        cases r1
        cases r2
        have hd : H2 p = some (.dK (mergeK [] (litKV m))) := x2.hh _ _ hs (x1.hh _ _ hs upd_same)
        refine ⟨valV (mergeK [] (litKV m)) (Sum.inr z), DGet.k (k := Sum.inr z) hd, ?_⟩
        have xx := (x0.trans x1).trans x2
        split at q
        · rename_i i q3
          cases q
          rw [q3]
          exact k _ I2 H2 xx (.int _) trivial
        · rename_i q3
          cases q
          rw [q3]
          exact k _ I2 H2 xx (.int _) trivial
        · cases q
      · cases q
    · cases q
  · cases q
/-! ### list(range(n)) -/
def fListRg (f : FE) : FE := fun e n => match f e n with
  | some (.d (.int j), n1) => if 0 ≤ j ∧ j ≤ big then some (.cell (intsUp 0 j.toNat), n1) else none
  | _ => none
theorem e_listRg (h : PE X e (tLstRg (tRg1 (tE X.kw f)))) : PE X e (tE X.kw (fListRg f)) := h.by fun σ H Q ⟨st, n, H0, I, ev, w, E, sv, n', q, k⟩ => by
  unfold fListRg at q
  split at q
  · rename_i j n1 q1
    split at q
    · rename_i hj
      cases q
      refine ⟨st, n, H0, I, ev, w, E, _, _, q1, fun v I1 H1 x1 r1 _ => ?_⟩
      cases r1
      have hb : (big : Int) = 100000 := rfl
      refine ⟨j, rfl, ⟨by omega, by omega, by omega, by omega, by omega⟩, fun p hp => ?_⟩
      have hd : DpAll X.kw I1 (rgV 0 j) (intsUp 0 j.toNat) := by
        have e1 : rgV 0 j = ((List.range j.toNat).map fun (i : Nat) => (0 : Int) + (i : Int)).map V.int := by
          unfold rgV
          rw [List.map_map, Int.sub_zero]
          rfl
        have e2 : intsUp 0 j.toNat = ((List.range j.toNat).map fun (i : Nat) => (0 : Int) + (i : Int)).map PyData.int := by
          unfold intsUp
          rw [List.map_map]
          rfl
        rw [e1, e2]
        exact DpAll.ints _
      obtain ⟨x2, k2, k3⟩ := sv_cellNew x1.w hd hp
      exact k _ _ _ (x1.trans x2) k2 (Fr.back x1 k2 k3)
    · cases q
  · cases q
end
/-! ### sets, sorted at once -/
def nub {α : Type} [DecidableEq α] : List α → List α
  | [] => []
  | x :: xs => if x ∈ nub xs then nub xs else x :: nub xs
theorem mem_nub {α : Type} [DecidableEq α] {a : α} : ∀ {xs : List α}, a ∈ nub xs ↔ a ∈ xs
  | [] => Iff.rfl
  | x :: xs => by
    unfold nub
    split
    · rename_i h
      rw [mem_nub, List.mem_cons]
      constructor
      · exact .inr
      · rintro (e | e)
        · rw [e]; exact mem_nub.mp h
        · exact e
    · rw [List.mem_cons, List.mem_cons, mem_nub]
theorem nub_nodup {α : Type} [DecidableEq α] : ∀ xs : List α, (nub xs).Nodup
  | [] => List.nodup_nil
  | x :: xs => by
    unfold nub
    split
    · exact nub_nodup xs
    · rename_i h
      exact List.nodup_cons.mpr ⟨h, nub_nodup xs⟩
section
variable {X : Cx} {e : Expr} {fa : FA} {K : KW} {P : Program} {w0 : World}
/-! ints -/
def ltI (a b : Int) : Bool := decide (a ≤ b)
def sortI (ns : List Int) : List Int := (nub ns).mergeSort ltI
theorem sortI_eq {ns ms : List Int} (h1 : ms.Pairwise (· < ·)) (h2 : ∀ k, k ∈ ms ↔ k ∈ ns) : ms = sortI ns := by
  have nd : ms.Nodup := h1.imp fun h => Int.ne_of_lt h
  have pm : ms.Perm (nub ns) := (List.perm_ext_iff_of_nodup nd (nub_nodup ns)).mpr fun a => by rw [h2, mem_nub]
  have tr : ∀ a b c : Int, ltI a b = true → ltI b c = true → ltI a c = true := fun a b c x y => by
    unfold ltI at *
    simp only [decide_eq_true_eq] at *
    omega
  have to : ∀ a b : Int, (ltI a b || ltI b a) = true := fun a b => by
    unfold ltI
    simp only [Bool.or_eq_true, decide_eq_true_eq]
    omega
  refine List.Perm.eq_of_pairwise (le := fun a b => ltI a b = true) (fun a b _ _ x y => ?_) (h1.imp fun h => ?_) (List.pairwise_mergeSort tr to (nub ns)) (pm.trans (List.mergeSort_perm _ _).symm)
  · unfold ltI at x y
    simp only [decide_eq_true_eq] at x y
    omega
  · unfold ltI
    rw [decide_eq_true_eq]
    omega
def fSortI (fa : FA) : FE := fun e n => match fa e n with
  | some ([.d (.tuple ds)], n1) => (match intsD ds with
    | some ns => if ns.length < 64 then some (.cell ((sortI ns).map PyData.int), n1) else none
    | none => none)
  | _ => none
theorem si_of {σ H} {Q : VK} (h : tE K (fSortI fa) σ H Q) : tCB (rSortedSet w0) (tCons (tCB (rSetTupI K w0) (tAs K fa)) tNil) σ H Q := by
  obtain ⟨st, n, H0, I, ev, w, E, sv, n', q, k⟩ := h
  unfold fSortI at q
  split at q
  · rename_i ds n1 q1
    split at q
    · rename_i ns q2
      split at q
      · rename_i hl
        cases q
        refine ⟨st, n, H0, I, ev, w, E, _, _, q1, fun vs I1 H1 x1 r1 => ?_⟩
        cases r1 with
        | cons g1 _ g2 =>
          cases g2
          cases g1 with
          | tup hs ha =>
            rename_i a us
            rw [intsD_of q2] at ha
            rw [ints_vs ha] at hs
            refine ⟨a, ns, rfl, ex_sqT x1.w.im.sub hs, by omega, fun b c hb hc => ?_⟩
            have x2 : Xt st n' I1 H1 I1 (upd H1 b (SetO w0 b (fun j => decide (j ∈ ns)) c)) := Xt.other x1.w hb (fun _ z => nomatch z)
            refine ⟨b, _, c, rfl, upd_same, by omega, fun ms p h1 h2 h3 hp => ?_⟩
            have em : ms = sortI ns := sortI_eq h1 fun j => by rw [h2, decide_eq_true_eq]
            rw [em]
            obtain ⟨x3, k3, k4⟩ := sv_cellNew x2.w (DpAll.ints (K := K) (sortI ns)) hp
            exact k _ _ _ ((x1.trans x2).trans x3) k3 (Fr.back (x1.trans x2) k3 k4)
      · cases q
    · cases q
  · cases q
theorem e_sortI (h : PE X e (tCB (rSortedSet X.w) (tCons (tCB (rSetTupI X.K X.w) (tAs X.kw fa)) tNil))) : PE X e (tE X.kw (fSortI fa)) := h.by fun σ H Q q => si_of q
end
end Sb
/-! P8: parts backwards: xs[::-1], xs[i::-1] of a list, z[::-1] of a text. -/
namespace Sb
open PySem PySem.Spec PyProof.Rows L2
section
variable {X : Cx} {e : Expr} {f : FE} {a : FO}
theorem t_notInM {p : Addr} {m : List (Str × Int)} (D : KDm X.K X.w p m) (h : PT X e (tTest (tOp (rInDm X.K X.w true) (tE X.kw f) (tC (.ref p))))) : PT X e (tTs X.kw (bT (fInM true m f))) := h.by fun σ H Q ⟨st, n, H0, I, ev, w, E, b, n', q, k⟩ => by
  have q := bT_eq q
  unfold fInM at q
  split at q
  · rename_i z n1 q1
    cases q
    refine ⟨st, n, H0, I, ev, w, E, _, _, q1, fun v I1 H1 x1 r1 _ => ?_⟩
    cases r1
    refine ⟨p, z, m, rfl, rfl, D, _, rfl, ?_⟩
    have := k I1 H1 x1
    rw [Bool.bne_true] at this
    exact this
  · cases q
end
end Sb
/-! P14: range with a step of -1. -/
/-! P15: list.index. -/
/-! P16: a comprehension within a comprehension. -/
/-! P20: x += e of ints, tuple(range(..)), list(range(a, b)). -/
namespace Sb
open PySem PySem.Spec PyProof.Rows L2
section
variable {X : Cx} {s : Stmt} {e : Expr} {f g : FE}
def sAug (i : Nat) (f : FE) : FS := fun e n => match e[i]? with
  | some (some (.d (.int a))) => (match f e n with
    | some (.d (.int b), n1) => some (.nx, e.set i (some (.d (.int (a + b)))), n1)
    | _ => none)
  | _ => none
theorem s_aug {i : Nat} (h : PS X s (tAug i (tE X.kw f) (rI0 fun i j => .int (i + j)))) : PS X s (tSs X.kw (sAug i f)) := h.by fun D σ H ⟨st, n, I0, H0, I, e, x, E, fl, e', n', q, k⟩ => by
  unfold sAug at q
  split at q
  · rename_i a q0
    split at q
    · rename_i b n1 q1
      cases q
      obtain ⟨v, h1, h2, _⟩ := E.at_ i _ q0
      cases h2
      refine ⟨_, h1, st, n, H0, I, e, x.w, E, _, _, q1, fun u I1 H1 x1 r1 _ => ?_⟩
      cases r1
      exact ⟨a, b, rfl, rfl, k _ I1 H1 (x.trans x1) ((E.mono x1).setD i (.int _)) x1.ii⟩
    · cases q
  · cases q
theorem rg_data {K : KW} {I : Hp} (i j : Int) : DpAll K I (rgV i j) (intsUp i (j - i).toNat) := by
  have e1 : rgV i j = ((List.range (j - i).toNat).map fun (k : Nat) => i + (k : Int)).map V.int := by
    unfold rgV
    rw [List.map_map]
    rfl
  have e2 : intsUp i (j - i).toNat = ((List.range (j - i).toNat).map fun (k : Nat) => i + (k : Int)).map PyData.int := by
    unfold intsUp
    rw [List.map_map]
    rfl
  rw [e1, e2]
  exact DpAll.ints _
def rgOk (i j : Int) : Bool := decide (-100000 ≤ i) && decide (i ≤ 100000) && decide (-100000 ≤ j) && decide (j ≤ 100000)
theorem rgOk_of {i j : Int} (h : rgOk i j = true) : RgOk i j := by
  unfold rgOk at h
  simp only [Bool.and_eq_true, decide_eq_true_eq] at h
  exact ⟨by omega, by omega, by omega, by omega, by omega⟩
def fTupRg1 (f : FE) : FE := fun e n => match f e n with
  | some (.d (.int j), n1) => if rgOk 0 j = true then some (.d (.tuple (intsUp 0 j.toNat)), n1) else none
  | _ => none
theorem e_tupRg1 (h : PE X e (tTupRg (tRg1 (tE X.kw f)))) : PE X e (tE X.kw (fTupRg1 f)) := h.by fun σ H Q ⟨st, n, H0, I, ev, w, E, sv, n', q, k⟩ => by
  unfold fTupRg1 at q
  split at q
  · rename_i j n1 q1
    split at q
    · rename_i hj
      cases q
      refine ⟨st, n, H0, I, ev, w, E, _, _, q1, fun v I1 H1 x1 r1 _ => ?_⟩
      cases r1
      refine ⟨j, rfl, rgOk_of hj, fun p hp => ?_⟩
      have hd : DpAll X.kw I1 (rgV 0 j) (intsUp 0 j.toNat) := by
        have := rg_data (K := X.kw) (I := I1) 0 j
        rw [Int.sub_zero] at this
        exact this
      obtain ⟨x2, k2⟩ := dp_tupNew x1.w hd hp
      exact k _ _ _ (x1.trans x2) k2 trivial
    · cases q
  · cases q
end
end Sb
/-! PD: dicts whose keys are tuples, as data: in, [], get, setdefault, new, put. -/
namespace Sb
open PySem PySem.Spec PyProof.Rows L2
/-! ### keys -/
mutual
theorem nk_inj : ∀ (a b : PyData) (k : NestedKey), nk a = some k → nk b = some k → a = b
  | .none, b, k, ha, hb => by
    cases ha
    cases b with
    | none => rfl
    | tuple ys =>
      unfold nk at hb
      cases q : nks ys with
      | none => rw [q] at hb; cases hb
      | some ks => rw [q] at hb; cases hb
    | _ => cases hb
  | .int i, b, k, ha, hb => by
    cases ha
    cases b with
    | int j => cases hb; rfl
    | tuple ys =>
      unfold nk at hb
      cases q : nks ys with
      | none => rw [q] at hb; cases hb
      | some ks => rw [q] at hb; cases hb
    | _ => cases hb
  | .str x, b, k, ha, hb => by
    cases ha
    cases b with
    | str y => cases hb; rfl
    | tuple ys =>
      unfold nk at hb
      cases q : nks ys with
      | none => rw [q] at hb; cases hb
      | some ks => rw [q] at hb; cases hb
    | _ => cases hb
  | .tuple xs, b, k, ha, hb => by
    unfold nk at ha
    cases q : nks xs with
    | none => rw [q] at ha; cases ha
    | some ks =>
      rw [q] at ha
      cases ha
      cases b with
      | tuple ys =>
        unfold nk at hb
        cases q2 : nks ys with
        | none => rw [q2] at hb; cases hb
        | some ls =>
          rw [q2] at hb
          cases hb
          rw [nks_inj xs ys _ q q2]
      | _ => cases hb
  | .bool _, _, _, ha, _ => by cases ha
  | .list _, _, _, ha, _ => by cases ha
theorem nks_inj : ∀ (a b : List PyData) (ks : List NestedKey), nks a = some ks → nks b = some ks → a = b
  | [], b, ks, ha, hb => by
    cases ha
    cases b with
    | nil => rfl
    | cons y ys =>
      unfold nks at hb
      split at hb <;> cases hb
  | x :: xs, b, ks, ha, hb => by
    unfold nks at ha
    split at ha
    · rename_i k1 ks1 e1 e2
      cases ha
      cases b with
      | nil => cases hb
      | cons y ys =>
        unfold nks at hb
        split at hb
        · rename_i k2 ks2 e3 e4
          cases hb
          rw [nk_inj x y _ e1 e3, nks_inj xs ys _ e2 e4]
        · cases hb
    · cases ha
end
theorem nkT_some {d : PyData} {k : NestedKey} (h : nkT d = some k) : ∃ xs, d = .tuple xs ∧ nk d = some k ∧ k.depth ≤ 8 := by
  unfold nkT at h
  split at h
  · rename_i xs
    split at h
    · rename_i k2 q
      split at h
      · rename_i h8
        cases h
        exact ⟨xs, rfl, q, h8⟩
      · cases h
    · cases h
  · cases h
theorem nkT_inj {a b : PyData} {k : NestedKey} (ha : nkT a = some k) (hb : nkT b = some k) : a = b := by
  obtain ⟨_, _, h1, _⟩ := nkT_some ha
  obtain ⟨_, _, h2, _⟩ := nkT_some hb
  exact nk_inj a b k h1 h2
section
variable {X : Cx} {pins : List (Addr × Obj)} {σ : L2.St} {H I : Hp} {s : Shared}
mutual
theorem nk_is (J : Inv X pins σ H s) (m : Im I H) : ∀ (d : PyData) (k : NestedKey) (v : V) (u : Value), Dp X.K I v d → nk d = some k → RelV v u → NestedIs s.heap k u
  | .none, k, v, u, h, e, r => by
    cases e
    cases h
    cases r
    exact .none
  | .int i, k, v, u, h, e, r => by
    cases e
    cases h
    obtain ⟨t, rfl⟩ := r
    exact .int _ _
  | .str x, k, v, u, h, e, r => by
    cases e
    cases h
    obtain ⟨t, rfl⟩ := r
    exact .text _ _
  | .tuple xs, k, v, u, h, e, r => by
    unfold nk at e
    cases q : nks xs with
    | none => rw [q] at e; cases e
    | some ks =>
      rw [q] at e
      cases e
      cases h with
      | tup hs ha =>
        cases r
        obtain ⟨its, rv, ⟨o, g1, g2, n, g3⟩, _⟩ := J.tuple (ex_sqT m.sub hs)
        exact .tup g1 g2 g3 (by simpa using nks_is J m xs ks _ _ ha q rv)
  | .bool _, _, _, _, _, e, _ => by cases e
  | .list _, _, _, _, _, e, _ => by cases e
theorem nks_is (J : Inv X pins σ H s) (m : Im I H) : ∀ (ds : List PyData) (ks : List NestedKey) (vs : List V) (us : List Value), DpAll X.K I vs ds → nks ds = some ks → Vals vs us → NestedAll s.heap ks us
  | [], ks, vs, us, h, e, r => by
    cases e
    cases h
    cases r
    exact .nil
  | d :: ds, ks, vs, us, h, e, r => by
    unfold nks at e
    split at e
    · rename_i k1 ks1 e1 e2
      cases e
      cases h with
      | cons h1 h2 =>
        cases r with
        | cons r1 r2 => exact .cons (nk_is J m d _ _ _ h1 e1 r1) (nks_is J m ds _ _ _ h2 e2 r2)
    · cases e
end
theorem nkT_is (J : Inv X pins σ H s) (m : Im I H) {d : PyData} {k : NestedKey} {v : V} {u : Value} (h : Dp X.K I v d) (e : nkT d = some k) (r : RelV v u) : ∃ p, v = .ref p ∧ u = .ref p ∧ (nestedKind X.prog X.w).is s.heap k p := by
  obtain ⟨xs, rfl, e1, e2⟩ := nkT_some e
  have h2 := nk_is J m _ _ _ _ h e1 r
  cases h with
  | tup hs ha =>
    cases r
    exact ⟨_, rfl, rfl, h2, e2⟩
end
/-! ### tables as data -/
def getT (kvs : List (PyData × PyData)) (d : PyData) : Option PyData := (kvs.find? fun kv => decide (nkT kv.1 = nkT d)).map (·.2)
def putT (kvs : List (PyData × PyData)) (d z : PyData) : List (PyData × PyData) :=
  if (getT kvs d).isSome = true then kvs.map (fun kv => if nkT kv.1 = nkT d then (kv.1, z) else kv) else kvs ++ [(d, z)]
abbrev KR (W : KW) (I : Hp) (kv : PyData × PyData) (x : NestedKey × Addr × Value) : Prop := nkT kv.1 = some x.1 ∧ Dp W I (.ref x.2.1) kv.1 ∧ ∃ b, RelV b x.2.2 ∧ Dp W I b kv.2
theorem getT_cons {kv : PyData × PyData} {kvs : List (PyData × PyData)} {d : PyData} : getT (kv :: kvs) d = if nkT kv.1 = nkT d then some kv.2 else getT kvs d := by
  unfold getT
  rw [List.find?_cons]
  by_cases e : nkT kv.1 = nkT d
  · rw [decide_eq_true e, if_pos e]
    rfl
  · rw [decide_eq_false e, if_neg e]
theorem atKey_cons {x : NestedKey × Addr × Value} {xs : List (NestedKey × Addr × Value)} {k : NestedKey} : atKey (x :: xs) k = if x.1 = k then some x.2 else atKey xs k := by
  unfold atKey
  rw [List.find?_cons]
  by_cases e : x.1 = k
  · rw [decide_eq_true e, if_pos e]
    rfl
  · rw [decide_eq_false e, if_neg e]
theorem getT_at {W : KW} {I : Hp} {kvs : List (PyData × PyData)} {xs : List (NestedKey × Addr × Value)} (r : Paired (KR W I) kvs xs) {d : PyData} {k : NestedKey} (hd : nkT d = some k) :
    (getT kvs d = none ∧ atKey xs k = none) ∨ ∃ z a u b, getT kvs d = some z ∧ atKey xs k = some (a, u) ∧ RelV b u ∧ Dp W I b z := by
  induction r with
  | nil => exact .inl ⟨rfl, rfl⟩
  | @cons p q ps qs h t ih =>
    rw [getT_cons, atKey_cons]
    obtain ⟨h1, h2, b, h3, h4⟩ := h
    by_cases e : q.1 = k
    · rw [if_pos (show nkT p.1 = nkT d by rw [h1, hd, e]), if_pos e]
      exact .inr ⟨_, _, _, b, rfl, rfl, h3, h4⟩
    · rw [if_neg (show ¬ nkT p.1 = nkT d from fun z => by rw [h1, hd] at z; exact e (Option.some.inj z)), if_neg e]
      exact ih
theorem getT_some {W : KW} {I : Hp} {kvs : List (PyData × PyData)} {xs : List (NestedKey × Addr × Value)} (r : Paired (KR W I) kvs xs) {d : PyData} {k : NestedKey} (hd : nkT d = some k) : (getT kvs d).isSome = (atKey xs k).isSome := by
  rcases getT_at r hd with ⟨h1, h2⟩ | ⟨z, a, u, b, h1, h2, _⟩ <;> rw [h1, h2] <;> rfl
theorem putT_at {W : KW} {I : Hp} {kvs : List (PyData × PyData)} {xs : List (NestedKey × Addr × Value)} (r : Paired (KR W I) kvs xs) {d z : PyData} {k : NestedKey} (hd : nkT d = some k) {q : Addr} {b : V} {u : Value} (h1 : Dp W I (.ref q) d) (h2 : RelV b u) (h3 : Dp W I b z) :
    Paired (KR W I) (putT kvs d z) (storedH xs k q u) := by
  unfold putT storedH
  rw [getT_some r hd]
  by_cases e : (atKey xs k).isSome = true
  · rw [if_pos e, if_pos e]
    clear e
    induction r with
    | nil => exact .nil
    | @cons p x ps xs h t ih =>
      rw [List.map_cons, List.map_cons]
      refine .cons ?_ ih
      obtain ⟨g1, g2, c, g3, g4⟩ := h
      unfold putAt
      by_cases e : x.1 = k
      · rw [if_pos (show nkT p.1 = nkT d by rw [g1, hd, e]), if_pos e]
        exact ⟨g1, g2, b, h2, h3⟩
      · rw [if_neg (show ¬ nkT p.1 = nkT d from fun z => by rw [g1, hd] at z; exact e (Option.some.inj z)), if_neg e]
        exact ⟨g1, g2, c, g3, g4⟩
  · rw [if_neg e, if_neg e]
    exact Paired.snoc r ⟨hd, h1, b, h2, h3⟩
theorem putT_len (kvs : List (PyData × PyData)) (d z : PyData) : (putT kvs d z).length ≤ kvs.length + 1 := by
  unfold putT
  split
  · rw [List.length_map]
    omega
  · rw [List.length_append]
    exact Nat.le_refl _
theorem nodup_of {W : KW} {I : Hp} {kvs : List (PyData × PyData)} {xs : List (NestedKey × Addr × Value)} (r : Paired (KR W I) kvs xs) : (kvs.map (·.1)).Nodup ↔ (xs.map (·.1)).Nodup := by
  have mem : ∀ {kvs : List (PyData × PyData)} {xs : List (NestedKey × Addr × Value)}, Paired (KR W I) kvs xs → ∀ {d : PyData} {k : NestedKey}, nkT d = some k → (d ∈ kvs.map (·.1) ↔ k ∈ xs.map (·.1)) := fun {kvs xs} r {d k} hd => by
    induction r with
    | nil => exact ⟨fun h => (nomatch h), fun h => (nomatch h)⟩
    | @cons p x ps xs h t ih =>
      rw [List.map_cons, List.map_cons, List.mem_cons, List.mem_cons, ih]
      have : d = p.1 ↔ k = x.1 := ⟨fun e => by rw [e, h.1] at hd; exact (Option.some.inj hd).symm, fun e => nkT_inj hd (by rw [e]; exact h.1)⟩
      rw [this]
  induction r with
  | nil => exact ⟨fun _ => List.nodup_nil, fun _ => List.nodup_nil⟩
  | @cons p x ps xs h t ih =>
    rw [List.map_cons, List.map_cons, List.nodup_cons, List.nodup_cons]
    exact and_congr (not_congr (mem t h.1)) ih
/-! ### a dict of the heap -/
def DAt (W : KW) (I H : Hp) (p : Addr) (kvs : List (PyData × PyData)) : Prop := ∃ o, H p = some (rawO p o) ∧ TabR W I p o true kvs
def Sv.dict : Sv → Option (List (PyData × PyData))
  | .tab true kvs => some kvs
  | .btab true kvs => some kvs
  | .ktab true kvs => some kvs
  | _ => none
theorem SvR.dat {W : KW} {st : Stt} {I H : Hp} {v : V} {sv : Sv} {kvs : List (PyData × PyData)} (m : Im I H) (h : SvR W st I H v sv) (e : sv.dict = some kvs) : ∃ p, v = .ref p ∧ DAt W I H p kvs := by
  cases sv with
  | tab t k =>
    cases t with
    | true =>
      cases e
      obtain ⟨p, o, e1, h1, _, _, h2⟩ := h
      exact ⟨p, e1, o, h1, h2⟩
    | false => cases e
  | btab t k =>
    cases t with
    | true =>
      cases e
      obtain ⟨p, o, e1, h1, _, _, h2⟩ := h
      exact ⟨p, e1, o, h1, h2⟩
    | false => cases e
  | ktab t k =>
    cases t with
    | true =>
      cases e
      obtain ⟨p, o, e1, h1, h2⟩ := h
      exact ⟨p, e1, o, m.sub _ _ h1, h2⟩
    | false => cases e
  | xt _ => cases e
  | xc _ => cases e
  | d _ => cases e
  | cell _ => cases e
  | bor _ => cases e
  | st => cases e
  | kn _ => cases e
theorem raw_ok {P : Program} {w : World} {H : Hp} {h : Heap} {p : Addr} {o : Obj} (e : h.get? p = some o) : ObjOk P w H h p (rawO p o) := ⟨e, ⟨o, e⟩, fun _ _ e1 k => k _ e1⟩
theorem keyH_true {W : KW} {d : PyData} {n : Int} (h : keyH W true d = some n) : ∃ k, nkT d = some k ∧ n = k.hash W.w := by
  unfold keyH at h
  rw [if_pos rfl] at h
  split at h
  · rename_i k q
    exact ⟨k, q, (Option.some.inj h).symm⟩
  · cases h
theorem ents_of {W : KW} {I : Hp} {kvs : List (PyData × PyData)} : ∀ {es : List DictEntry}, Paired (EntR W I true) kvs es → ∃ xs, es = xs.map (entryOfKey (nestedKind W.P W.w)) ∧ Paired (KR W I) kvs xs := fun {es} r => by
  induction r with
  | nil => exact ⟨[], rfl, .nil⟩
  | @cons p e ps es h t ih =>
    obtain ⟨xs, rfl, r⟩ := ih
    obtain ⟨a, b, ra, rb, da, db, hk⟩ := h
    obtain ⟨k, hk1, hk2⟩ := keyH_true hk
    obtain ⟨ys, ey, _, _⟩ := nkT_some hk1
    obtain ⟨q, eq⟩ : ∃ q, a = .ref q := by
      rw [ey] at da
      cases da with
      | tup _ _ => exact ⟨_, rfl⟩
    subst eq
    have ek : e.key = .ref q := ra
    refine ⟨(k, q, e.val) :: xs, ?_, .cons ⟨hk1, da, b, rb, db⟩ r⟩
    rw [List.map_cons]
    congr 1
    show e = ⟨k.hash W.w, .ref q, e.val⟩
    rw [← hk2, ← ek]
theorem ents_to {W : KW} {I : Hp} {kvs : List (PyData × PyData)} {xs : List (NestedKey × Addr × Value)} (r : Paired (KR W I) kvs xs) : Paired (EntR W I true) kvs (xs.map (entryOfKey (nestedKind W.P W.w))) := by
  induction r with
  | nil => exact .nil
  | @cons p x ps xs h t ih =>
    obtain ⟨h1, h2, b, h3, h4⟩ := h
    rw [List.map_cons]
    refine .cons ⟨.ref x.2.1, b, rfl, h3, h2, h4, ?_⟩ ih
    unfold keyH
    rw [if_pos rfl, h1]
    rfl
theorem tab_of {W : KW} {I : Hp} {h : Heap} {p : Addr} {kvs : List (PyData × PyData)} {xs : List (NestedKey × Addr × Value)} (ns : (p == sysModules) = false) (hl : kvs.length ≤ big) (dd : h.DictOfH (nestedKind W.P W.w) p xs) (r : Paired (KR W I) kvs xs) : ∃ o, h.get? p = some o ∧ TabR W I p o true kvs := by
  obtain ⟨o, es, ep, h1, h2, h3, h4, _, h5⟩ := dd
  refine ⟨o, h1, ns, h2, hl, (nodup_of r).mpr h5, es, ep, h3, ?_⟩
  rw [h4]
  exact ents_to r
section
variable {X : Cx} {pins : List (Addr × Obj)} {σ : L2.St} {H I : Hp} {s : Shared} {p : Addr} {kvs : List (PyData × PyData)}
theorem d_at (J : Inv X pins σ H s) (m : Im I H) (D : DAt X.kw I H p kvs) : (p == sysModules) = false ∧ kvs.length ≤ big ∧ ∃ xs, s.heap.DictOfH (nestedKind X.prog X.w) p xs ∧ Paired (KR X.kw I) kvs xs := by
  obtain ⟨o, h1, T⟩ := D
  obtain ⟨es, ep, e, r⟩ := T.en
  obtain ⟨xs, e2, r2⟩ := ents_of r
  have hg : s.heap.get? p = some o := (show ObjOk X.prog X.w H s.heap p (rawO p o) from J.hok p _ h1).1
  refine ⟨T.ns, T.len, xs, ⟨o, es, ep, hg, T.ex, e, e2, fun x hx => ?_, (nodup_of r2).mp T.nd⟩, r2⟩
  have all : ∀ {kvs : List (PyData × PyData)} {xs : List (NestedKey × Addr × Value)}, Paired (KR X.kw I) kvs xs → ∀ x ∈ xs, (nestedKind X.prog X.w).is s.heap x.1 x.2.1 := fun {kvs xs} r => by
    induction r with
    | nil => exact fun x h => nomatch h
    | @cons p y ps ys h t ih =>
      intro x hx
      rcases List.mem_cons.mp hx with e | hx
      · rw [e]
        obtain ⟨q, e1, _, z⟩ := nkT_is J m h.2.1 h.1 (show RelV (V.ref y.2.1) (Value.ref y.2.1) from rfl)
        cases e1
        exact z
      · exact ih x hx
  exact all r2 x hx
/-! ### y in d, d[y] -/
/-! ### d[y] = v, the new dict's heap -/
theorem d_setT {A : Around} {E : Value → Shared → Prop} {Q : Unit → Shared → Prop} {y b : V} {u r : Value} {d z : PyData} {k : NestedKey} (hu : A.units + 64 < cLine) (J : Inv X pins σ H s) (m : Im I H) (D : DAt X.kw I H p kvs) (hl : kvs.length < big) (hd : Dp X.kw I y d) (hk : nkT d = some k) (hz : Dp X.kw I b z)
    (ry : RelV y u) (rb : RelV b r) (h : ∀ o s', TabR X.kw I p o true (putT kvs d z) → Inv X pins σ (upd H p (rawO p o)) s' → Q () s') : wpAny (model X.prog X.w) A (setItem (.ref p) u r) Q E s := by
  obtain ⟨ns, _, xs, dd, re⟩ := d_at J m D
  obtain ⟨a, rfl, rfl, ki⟩ := nkT_is J m hd hk ry
  have hz2 : xs.length ≤ sizeLine := by rw [← Paired.length re]; exact big_le (Nat.le_of_lt hl)
  refine wpAny_setItem_heap (knd := nestedKind X.prog X.w) (hsz := hz2) (by show A.in1.units + 8 < cLine; have : A.in1.units = A.units + 1 := rfl; omega) ki dd fun h' dd' hs => ?_
  have r2 := putT_at re hk hd rb hz
  obtain ⟨o, ho, T⟩ := tab_of (W := X.kw) ns (by have := putT_len kvs d z; omega) dd' r2
  obtain ⟨o0, h0, _⟩ := D
  exact h o _ T (d_write J (by rw [h0]; exact True.intro) hs ⟨o, ho⟩ (raw_ok ho))
/-- an empty dict -/
def d0 : Obj := { cls := .type "dict", data := .dict #[] }
theorem tab_nil {W : KW} {I : Hp} {p : Addr} (ns : (p == sysModules) = false) : TabR W I p d0 true [] := ⟨ns, ⟨rfl, rfl, rfl⟩, Nat.zero_le _, List.nodup_nil, #[], 0, rfl, .nil⟩
def tNewT (W : KW) : TE := fun _ H Q => ∀ p, H p = none → (∀ I, TabR W I p d0 true []) → Q (.ref p) (upd H p (rawO p d0))
end
section
variable {X : Cx} {pos : Pos}
theorem pe_newT : PE X (.Dict [] [] pos) (tNewT X.kw) := ⟨fun pins s σ H Q J h =>
  wpAny_Dict_empty ⟨.ref s.heap.objs.size, _, J.laid (a := s.heap.objs.size) (o := rawO s.heap.objs.size d0) (t' := s.toks) (fun _ _ q => Heap.get?_push_of_some _ q) (Nat.le_refl _) (raw_ok (Heap.get?_push_size _ rfl)), rfl,
    h _ (J.hok.fresh (Nat.le_refl _)) fun I => tab_nil (beq_eq_false_iff_ne.mpr (Nat.ne_of_gt J.big))⟩⟩
/-! ### as evaluated -/
def fNewT : FE := fun _ n => some (.tab true [], n)
theorem xt_raw {st n I H p o} (w : Wr st n I H) (hp : H p = none) : Xt st n I H I (upd H p (rawO p o)) := by
  have hs := w.ne_st hp
  refine ⟨⟨w.im.putO (w.ine hp) rawO_tup, w.ist, w.up (Same.refl _) fun o h => by rw [upd_ne hs.symm]; exact h⟩, Same.refl _, fun b o' _ h => by rw [upd_ne (ne_of_none h hp)]; exact h, fun _ _ _ => rfl⟩
theorem e_newT {e : Expr} (h : PE X e (tNewT X.kw)) : PE X e (tE X.kw fNewT) := h.by fun σ H Q ⟨st, n, H0, I, ev, w, E, sv, n', q, k⟩ p hp hT => by
  cases q
  exact k _ I _ (xt_raw w hp) ⟨p, d0, rfl, upd_same, w.ine hp, w.ne_st hp, hT I⟩ fun p2 e => by cases e; exact hp
end
end Sb
/-! PD2: dict comprehensions, their keys tuples. -/
/-! PD3: dict comprehensions as evaluated; d[k] = v; walks over a dict that stays. -/
/-! PD4: d[k] = v; walks over d.items(). -/
namespace Sb
open PySem PySem.Spec PyProof.Rows L2
/-! ### d[k] = v -/
def sTPut (W : KW) (td ty tv : TE) : TS := fun D σ H => tv σ H fun v H1 => td σ H1 fun x H2 => ty σ H2 fun y H3 => ∃ I p kvs d k z, x = .ref p ∧ Im I H3 ∧ DAt W I H3 p kvs ∧ kvs.length < big ∧ Dp W I y d ∧ nkT d = some k ∧ Dp W I v z ∧ ∀ o, TabR W I p o true (putT kvs d z) → D.nx σ (upd H3 p (rawO p o))
def tabAt (e : Ev) (i : Nat) : Option (List (PyData × PyData)) := match e[i]? with
  | some (some (.tab true kvs)) => some kvs
  | _ => none
theorem tabAt_eq {e : Ev} {i : Nat} {kvs : List (PyData × PyData)} (h : tabAt e i = some kvs) : e[i]? = some (some (.tab true kvs)) := by
  unfold tabAt at h
  split at h
  · rename_i q
    cases h
    exact q
  · cases h
def sPutT (i : Nat) (fk fv : FE) : FS := fun e n => match fv e n with
  | none => none
  | some (sv, n1) => match sv.take with
    | none => none
    | some z => match fk e n1 with
      | some (.d d, n2) => (match tabAt e i with
        | none => none
        | some kvs => if (nkT d).isSome = true ∧ kvs.length < big then some (.nx, e.set i (some (.tab true (putT kvs d z))), n2) else none)
      | _ => none
section
variable {X : Cx} {o i value e : Expr} {pos pos' : Pos} {td ty tv : TE} {f fk fv : FE}
theorem ps_tput (hu : X.A.units + 64 < cLine) (ho : PE X o td) (hi : PE X i ty) (hv : PE X value tv) (hs : swapsWith value (some (.Subscript o i pos')) pos.line X.env = pure false) :
    PS X (.Assign [.Subscript o i pos'] value pos) (sTPut X.kw td ty tv) := by
  refine ⟨fun pins s σ H D J h => ?_⟩
  refine wpAny_Assign_Subscript (thn (hv.run pins s σ H _ J h) fun r s1 ⟨v, H1, J1, rv, q1⟩ => thn (ho.run pins s1 σ H1 _ J1 q1) fun u s2 ⟨x, H2, J2, rx, q2⟩ => thn (hi.run pins s2 σ H2 _ J2 q2) fun iv s3 ⟨y, H3, J3, ry, I, p, kvs, d, k, z, ex, m, dt, hl, hd, hk, hz, q3⟩ => ?_) hs
  subst ex
  obtain rfl : u = Value.ref p := rx
  exact d_setT hu J3 m dt hl hd hk hz ry rv fun ob s4 T J4 => ⟨σ, _, J4, q3 ob T⟩
theorem s_putT {s : Stmt} {i : Nat} (h : PS X s (sTPut X.kw (tVar i) (tE X.kw fk) (tE X.kw fv))) : PS X s (tSs X.kw (sPutT i fk fv)) := h.by fun D σ H ⟨st, n, I0, H0, I, e, x, E, fl, e', n', q, k⟩ => by
  unfold sPutT at q
  split at q
  · cases q
  · rename_i sv n1 q1
    split at q
    · cases q
    · rename_i z q2
      split at q
      · rename_i d n2 q3
        split at q
        · cases q
        · rename_i kvs q4
          split at q
          · rename_i hh
            cases q
            obtain ⟨kk, hkk⟩ := Option.isSome_iff_exists.mp hh.1
            refine ⟨st, n, H0, I, e, x.w, E, sv, n1, q1, fun v I1 H1 x1 r1 f1 => ?_⟩
            obtain ⟨I2, x2, _, k2⟩ := SvR.keep x1 r1 f1 q2
            have E2 := E.mono x2
            obtain ⟨vp, h1, ⟨p, o, ev, _⟩, _⟩ := E2.at_ i _ (tabAt_eq q4)
            subst ev
            refine ⟨.ref p, h1, st, n1, H0, I2, e, x2.w, E2, .d d, _, q3, fun y I3 H3 x3 r3 _ => ?_⟩
            have E3 := E2.mono x3
            obtain ⟨vp2, g1, ⟨p2, o2, ev2, g2, g3, g4, g5⟩, _⟩ := E3.at_ i _ (tabAt_eq q4)
            rw [h1] at g1
            cases g1
            cases ev2
            refine ⟨I3, p, kvs, d, kk, z, rfl, x3.w.im, ⟨o2, g2, g5⟩, hh.2, r3, hkk, Dp.mono x3.ii _ _ k2, fun ob T => ?_⟩
            obtain ⟨y1, y2⟩ := Er.putT ((x.trans x2).trans x3) E3 (tabAt_eq q4) h1 T
            exact k σ I3 _ y1 y2 (x2.ii.trans x3.ii)
          · cases q
      · cases q
/-! ### d.items() of a dict that stays -/
abbrev EA (ab : V × V) (e : DictEntry) : Prop := RelV ab.1 e.key ∧ RelV ab.2 e.val
def ItD (d : Addr) (o : Obj) (abs : List (V × V)) : It :=
  ⟨fun i H => H d = some (rawO d o) ∧ i < abs.length, fun i H x H' => ∃ T a b, abs[i]? = some (a, b) ∧ x = .ref T ∧ H T = none ∧ H' = upd H T (.tup [a, b]), fun i H => H d = some (rawO d o) ∧ abs.length ≤ i⟩
theorem ea_get {abs : List (V × V)} {es : List DictEntry} (r : Paired EA abs es) {i : Nat} (hi : i < abs.length) : ∃ a b e, abs[i]? = some (a, b) ∧ es[i]? = some e ∧ RelV a e.key ∧ RelV b e.val := by
  induction r generalizing i with
  | nil => cases hi
  | @cons p e ps es h t ih =>
    cases i with
    | zero => exact ⟨p.1, p.2, e, rfl, rfl, h.1, h.2⟩
    | succ i =>
      obtain ⟨a, b, e', h1, h2, h3, h4⟩ := ih (i := i) (by rw [List.length_cons] at hi; omega)
      exact ⟨a, b, e', by simpa using h1, by simpa using h2, h3, h4⟩
theorem turn_itD {P : Program} {w : World} {K : PySem.W.Frag} {elts : List Expr} {kk : Nat} {tpos : Pos} {d it : Addr} {o : Obj} {es : Array DictEntry} {ep : Nat} {abs : List (V × V)} (hx : o.ExactDict) (hod : o.data = .dict es ep) (hab : Paired EA abs es.toList) :
    Turn P w K (.Tuple elts kk tpos) (ItD d o abs) [it] it (fun i h => ∃ ok ov, IsItemIter h it d i es.size ep ok ov) := by
  have hsz : abs.length = es.size := by rw [Paired.length hab, Array.length_toList]
  refine { mem := List.mem_cons_self, obj := ?_, keep := ?_, item := ?_, done := ?_, self := fun A i s Q E st h => let ⟨_, _, e⟩ := st; wpAny_pyIter_itemiter e h }
  · rintro i h ⟨ok, ov, e⟩ b hb
    rw [List.mem_singleton.mp hb]
    exact ⟨_, e, nofun⟩
  · rintro i h h' ⟨ok, ov, e⟩ k
    exact ⟨ok, ov, k it List.mem_cons_self _ e⟩
  · intro X hP hw hK hc i pins s σ H E J hf ⟨ok, ov, he⟩ ⟨hd, hi⟩
    subst hP hw hK
    obtain ⟨a, b, en, h1, h2, ra, rb⟩ := ea_get hab hi
    have hi2 : i < es.size := by omega
    have e2 : es[i] = en := by
      rw [Array.getElem?_toList, Array.getElem?_eq_getElem hi2] at h2
      exact Option.some.inj h2
    have hg : s.heap.get? d = some o := (show ObjOk X.prog X.w H s.heap d (rawO d o) from J.hok d _ hd).1
    have lt : it < s.heap.objs.size := Heap.lt_size he
    refine wpAny_pyNext_items_item_raw he ⟨o, hg, hx, hod⟩ hi2 fun h' ho hT _ hk => ?_
    refine ⟨_, rfl, wpAny_letOwnedTupleGo_items (s := { s with heap := h' }) ho fun h'' he' sb => ?_⟩
    have hT2 : h''.get? s.heap.objs.size = some { cls := .type "tuple", data := .seq #[es[i].key, es[i].val] } := (sb.2 _ (Nat.ne_of_gt lt)).trans hT
    have nw : ObjOk X.prog X.w (upd H s.heap.objs.size (.tup [a, b])) h'' s.heap.objs.size (.tup [a, b]) :=
      ⟨by show 2 ≤ sizeLine; decide, [es[i].key, es[i].val], .cons (by rw [e2]; exact ra) (.cons (by rw [e2]; exact rb) .nil), ⟨_, hT2, rfl, _, rfl⟩⟩
    have J1 : Inv X pins σ (upd H s.heap.objs.size (.tup [a, b])) { s with heap := h'' } :=
      J.turnedNew (t' := s.toks) (ch := [it]) (fun c ob hb e => (sb.2 c (by simpa using hb)).trans (hk c ob (by simpa using hb) e)) hf (Nat.le_refl _) nw
    refine ⟨.ref s.heap.objs.size, _, J1, rfl, ⟨_, a, b, h1, rfl, J.hok.fresh (Nat.le_refl _), rfl⟩, ⟨_, _, he'⟩, fun c hb => ?_⟩
    rw [List.mem_singleton.mp hb, upd_ne (Nat.ne_of_lt lt)]
    exact (hf it List.mem_cons_self).1
  · intro X hP hw hK hc i pins s σ H E J hf ⟨ok, ov, he⟩ ⟨hd, hi⟩
    subst hP hw hK
    obtain ⟨f0, f1, f2, f3, f4, f5⟩ := hf it List.mem_cons_self
    have hg : s.heap.get? d = some o := (show ObjOk X.prog X.w H s.heap d (rawO d o) from J.hok d _ hd).1
    exact wpAny_pyNext_items_end_raw (J.ok.hd hc) he ⟨o, hg, hx, hod⟩ (by omega) fun h' eb => ⟨rfl, J.turned (t' := s.toks) (fun c ob hb e => eb c ob hb e) f0 f1 f3 f4 f5⟩
def iItemsT (td : TE) : TI := fun σ H R => td σ H fun x H1 => ∃ d o es ep abs, x = .ref d ∧ H1 d = some (rawO d o) ∧ (d == sysModules) = false ∧ o.ExactDict ∧ o.data = .dict es ep ∧ Paired EA abs es.toList ∧ R (ItD d o abs) H1
theorem pi_itemsT {apos cpos : Pos} {elts : List Expr} {kk : Nat} {tpos : Pos} (he : PE X e td) (hbase : attributeBase e "items" X.env (eval e X.env) = eval e X.env := by rfl) (hline : (apos.endLine == cpos.line) = true := by rfl) :
    PI X (.Tuple elts kk tpos) (.Call (.Attribute e "items" apos) [] [] cpos) (iItemsT td) := by
  refine ⟨fun pins s σ H R J h => ?_⟩
  refine wpAny_Call_method (T := "dict") (id := "dict.items") hbase rfl hline F.plainAttrs_dict F.slot_dict_items F.type_dict_items (thn (he.run pins s σ H _ J h) fun u s1 ⟨x, H1, J1, rx, d, o, es, ep, abs, ex, hd, ns, hx, hod, hab, q⟩ => ?_)
  subst ex
  obtain rfl : u = Value.ref d := rx
  have hg : s1.heap.get? d = some o := (show ObjOk X.prog X.w H1 s1.heap d (rawO d o) from J1.hok d _ hd).1
  have raw : s1.heap.DictRaw d es ep := ⟨o, hg, hx, hod⟩
  refine ⟨raw.typeIs, fun b q => ?_, ?_⟩
  · cases q
    exact ⟨o, hg, hx.2.1⟩
  have J2 : Inv X pins σ H1 { s1 with heap := s1.heap.push { cls := .type "dict_items", data := .fields #[.ref d] } } := J1.kept (t' := s1.toks) fun b ob q => Heap.get?_push_of_some _ q
  have fin : wpAny (model X.prog X.w) X.A (pyIter (.ref s1.heap.objs.size)) (PIE X pins σ (.Tuple elts kk tpos) R) X.xe { s1 with heap := s1.heap.push { cls := .type "dict_items", data := .fields #[.ref d] } } :=
    wpAny_pyIter_items_raw (d := d) ⟨_, Heap.get?_push_size _ rfl, rfl, rfl⟩ (raw.at fun ob e => Heap.get?_push_of_some _ e) (pi_one (tk := s1.toks) J2 _ (turn_itD hx hod hab) ⟨.none, .none, Heap.get?_push_size _ rfl⟩ q)
  show wpAny _ _ (callWith cpos (.builtin "dict.items") [.ref d] [] []) _ X.xe s1
  exact method_meetsIn F.slot_dict_items F.entry_dict_items rfl (PySem.evalArgs_none ⟨rfl, raw.typeIs, F.args_dict_items_1 _, _, meets_dict_items_raw d ns, ⟨es, ep, raw⟩, fin⟩)
def pairT (kv : PyData × PyData) : PyData := .tuple [kv.1, kv.2]
def itItems (f : FE) : FI := fun e n => match f e n with
  | some (.ktab true kvs, n1) => some (kvs.map pairT, n1)
  | _ => none
theorem abs_of {W : KW} {I : Hp} {kvs : List (PyData × PyData)} {es : List DictEntry} (r : Paired (EntR W I true) kvs es) : ∃ abs : List (V × V), Paired EA abs es ∧ abs.length = kvs.length ∧ ∀ (i : Nat) (a b : V), abs[i]? = some (a, b) → ∃ kv, kvs[i]? = some kv ∧ Dp W I a kv.1 ∧ Dp W I b kv.2 := by
  induction r with
  | nil => exact ⟨[], .nil, rfl, fun i a b h => by simp at h⟩
  | @cons p e ps es h t ih =>
    obtain ⟨abs, h1, h2, h3⟩ := ih
    obtain ⟨a, b, ra, rb, da, db, _⟩ := h
    refine ⟨(a, b) :: abs, .cons ⟨ra, rb⟩ h1, by rw [List.length_cons, List.length_cons, h2], fun i c d hi => ?_⟩
    cases i with
    | zero =>
      cases hi
      exact ⟨p, rfl, da, db⟩
    | succ i =>
      obtain ⟨kv, g1, g2⟩ := h3 i c d (by simpa using hi)
      exact ⟨kv, by simpa using g1, g2⟩
theorem i_items {c : Bool} {tg it : Expr} (h : PI X tg it (iItemsT (tE X.kw f))) : PI X tg it (tIs X.kw c (itItems f)) := h.by fun σ H R ⟨st, n, H0, I, ev, w, E, xs, n', q, hl, k⟩ => by
  unfold itItems at q
  split at q
  · rename_i kvs n1 q1
    cases q
    refine ⟨st, n, H0, I, ev, w, E, _, _, q1, fun v I1 H1 x1 r1 _ => ?_⟩
    obtain ⟨p, o, rfl, h1, T⟩ := r1
    obtain ⟨es, ep, hod, hp⟩ := T.en
    obtain ⟨abs, a1, a2, a3⟩ := abs_of hp
    refine ⟨p, o, es, ep, abs, rfl, x1.w.im.sub _ _ h1, T.ns, T.ex, hod, a1, k _ I1 H1 x1 ?_⟩
    have hlen : (kvs.map pairT).length = abs.length := by rw [List.length_map, a2]
    refine ⟨fun H => H p = some (rawO p o), fun i H x H' => ∃ T a b, abs[i]? = some (a, b) ∧ x = .ref T ∧ H T = none ∧ H' = upd H T (.tup [a, b]), ?_, fun n1 I2 H2 w2 s2 _ => w2.im.sub _ _ (s2 _ _ h1), ?_⟩
    · rw [hlen]
      exact ⟨fun i H hi g => ⟨g, hi⟩, fun H g => ⟨g, Nat.le_refl _⟩, fun i H x H' hi g y => y⟩
    · rintro n1 I2 H2 i x H3 w2 s2 _ hi ⟨T, a, b, g1, g2, g3, g4⟩
      subst g2 g4
      obtain ⟨kv, g5, g6, g7⟩ := a3 i a b g1
      obtain ⟨x2, k2⟩ := dp_pair w2 g3 (Dp.mono s2 _ _ g6) (Dp.mono s2 _ _ g7)
      exact ⟨_, _, by rw [List.getElem?_map, g5]; rfl, x2, k2⟩
  · cases q
end
end Sb
/-! PD5: len(d). -/
/-! PD6: d.setdefault(k, v), d.get(k, v). -/
namespace Sb
open PySem PySem.Spec PyProof.Rows L2
def tyDt (W : KW) : V → Hp → Prop := fun x H => ∃ I p kvs, x = .ref p ∧ Im I H ∧ DAt W I H p kvs
section
variable {X : Cx} {pins : List (Addr × Obj)} {σ : L2.St} {H I : Hp} {s : Shared}
theorem ty_D : TyOk X "dict" (tyDt X.kw) := by
  intro pins σ H s x v J r ty
  obtain ⟨I, p, kvs, rfl, m, D⟩ := ty
  obtain rfl : v = Value.ref p := r
  obtain ⟨_, _, xs, dd, _⟩ := d_at J m D
  refine ⟨dd.typeIs, fun b e => ?_⟩
  cases e
  obtain ⟨o, _, _, ho, hc, _⟩ := dd
  exact ⟨o, ho, hc.2.1⟩
end
end Sb
/-! P29: lists by keys: d = {}, then a loop of d.setdefault(k, []).append(v). -/
namespace Sb
open PySem PySem.Spec PyProof.Rows L2
/-! ### as data -/
/-! ### in the heap: key, where it lies, where its list lies -/
abbrev KX := NestedKey × Addr × Addr
def rowX (x : KX) : NestedKey × Addr × Value := (x.1, x.2.1, .ref x.2.2)
def RawT (W : KW) (I : Hp) (p : Addr) (o : Obj) (ks : List KX) : Prop :=
  (p == sysModules) = false ∧ o.ExactDict ∧ (∃ es ep, o.data = .dict es ep ∧ es.toList = (ks.map rowX).map (entryOfKey (nestedKind W.P W.w))) ∧ (ks.map (·.1)).Nodup ∧ ∀ x ∈ ks, ∃ d, nkT d = some x.1 ∧ Dp W I (.ref x.2.1) d
theorem RawT.mono {W : KW} {I I' : Hp} {p o ks} (s : Same I I') (h : RawT W I p o ks) : RawT W I' p o ks := by
  obtain ⟨a, b, c, d, e⟩ := h
  exact ⟨a, b, c, d, fun x hx => by obtain ⟨d, h1, h2⟩ := e x hx; exact ⟨d, h1, Dp.mono s _ _ h2⟩⟩
def atX (ks : List KX) (k : NestedKey) : Option Addr := (ks.find? fun x => decide (x.1 = k)).map (·.2.2)
/-! ### table and heap -/
structure LX (W : KW) (st : Stt) (H0 I H : Hp) (p : Addr) (kv : PyData × PyData) (x : KX) : Prop where
  key : nkT kv.1 = some x.1
  kd : Dp W I (.ref x.2.1) kv.1
  li : ∃ vs xs, kv.2 = .list xs ∧ H x.2.2 = some (.lst vs) ∧ DpAll W I vs xs
  ine : I x.2.2 = none
  nst : x.2.2 ≠ st
  np : x.2.2 ≠ p
  new : H0 x.2.2 = none
structure GrpR (W : KW) (st : Stt) (H0 I H : Hp) (p : Addr) (kvs : List (PyData × PyData)) (o : Obj) (ks : List KX) : Prop where
  at_ : H p = some (rawO p o)
  raw : RawT W I p o ks
  rows : Paired (LX W st H0 I H p) kvs ks
  nd : (ks.map (·.2.2)).Nodup
  ine : I p = none
  nst : p ≠ st
  new : H0 p = none
section
variable {W : KW} {st : Stt} {n n' : Nat} {H0 I H I' H' : Hp} {p : Addr} {kvs : List (PyData × PyData)} {o : Obj} {ks : List KX}
theorem LX.mono {kv x} (y : Xt st n I H I' H') (h : LX W st H0 I H p kv x) : LX W st H0 I' H' p kv x := by
  obtain ⟨vs, xs, e, h1, h2⟩ := h.li
  exact ⟨h.key, Dp.mono y.ii _ _ h.kd, ⟨vs, xs, e, y.hh _ _ h.nst h1, DpAll.mono y.ii _ _ h2⟩, by rw [y.old _ _ h1]; exact h.ine, h.nst, h.np, h.new⟩
theorem GrpR.mono (y : Xt st n I H I' H') (h : GrpR W st H0 I H p kvs o ks) : GrpR W st H0 I' H' p kvs o ks :=
  ⟨y.hh _ _ h.nst h.at_, h.raw.mono y.ii, Paired.mapP h.rows fun _ _ z => z.mono y, h.nd, by rw [y.old _ _ h.at_]; exact h.ine, h.nst, h.new⟩
/-- the key's place in both -/
theorem rows_at (r : Paired (LX W st H0 I H p) kvs ks) {d : PyData} {k : NestedKey} (hd : nkT d = some k) :
    (getT kvs d = none ∧ atX ks k = none) ∨ ∃ xs q vs, getT kvs d = some (.list xs) ∧ atX ks k = some q ∧ H q = some (.lst vs) ∧ DpAll W I vs xs ∧ I q = none ∧ q ≠ st ∧ q ≠ p ∧ H0 q = none := by
  induction r with
  | nil => exact .inl ⟨rfl, rfl⟩
  | @cons kv x ps qs h t ih =>
    unfold atX at ih ⊢
    rw [getT_cons, List.find?_cons]
    by_cases e : x.1 = k
    · rw [if_pos (show nkT kv.1 = nkT d by rw [h.key, hd, e]), decide_eq_true e]
      obtain ⟨vs, xs, e2, h1, h2⟩ := h.li
      exact .inr ⟨xs, x.2.2, vs, by rw [e2], rfl, h1, h2, h.ine, h.nst, h.np, h.new⟩
    · rw [if_neg (show ¬ nkT kv.1 = nkT d from fun z => by rw [h.key, hd] at z; exact e (Option.some.inj z)), decide_eq_false e]
      exact ih
/-- a list of the table grows -/
theorem rows_put (r : Paired (LX W st H0 I H p) kvs ks) (nd : (ks.map (·.2.2)).Nodup) (nk : (ks.map (·.1)).Nodup) {d : PyData} {k : NestedKey} (hd : nkT d = some k) {q : Addr} (hq : atX ks k = some q) {ws : List V} {ys : List PyData} (hw : DpAll W I ws ys) :
    Paired (LX W st H0 I (upd H q (.lst ws)) p) (putT kvs d (.list ys)) ks := by
  have hs : (getT kvs d).isSome = true := by
    rcases rows_at r hd with ⟨_, h2⟩ | ⟨xs, q2, vs, h1, _⟩
    · rw [h2] at hq; cases hq
    · rw [h1]; rfl
  unfold putT
  rw [if_pos hs]
  clear hs
  induction r with
  | nil => exact .nil
  | @cons kv x ps qs h t ih =>
    rw [List.map_cons, List.nodup_cons] at nd nk
    unfold atX at hq
    rw [List.find?_cons] at hq
    rw [List.map_cons]
    by_cases e : x.1 = k
    · rw [decide_eq_true e] at hq
      have eq : x.2.2 = q := Option.some.inj hq
      subst eq
      rw [if_pos (show nkT kv.1 = nkT d by rw [h.key, hd, e])]
      refine .cons ⟨h.key, h.kd, ⟨ws, ys, rfl, upd_same, hw⟩, h.ine, h.nst, h.np, h.new⟩ ?_
      have hm : ∀ {ps : List (PyData × PyData)} {qs : List KX}, Paired (LX W st H0 I H p) ps qs → x.2.2 ∉ qs.map (·.2.2) → k ∉ qs.map (·.1) → Paired (LX W st H0 I (upd H x.2.2 (.lst ws)) p) (ps.map fun kv => if nkT kv.1 = nkT d then (kv.1, PyData.list ys) else kv) qs := fun {ps qs} r => by
        induction r with
        | nil => exact fun _ _ => .nil
        | @cons kv2 x2 ps qs h t ih =>
          intro n1 n2
          rw [List.map_cons, List.mem_cons, not_or] at n1 n2
          rw [List.map_cons, if_neg (show ¬ nkT kv2.1 = nkT d from fun z => by rw [h.key, hd] at z; exact n2.1 (Option.some.inj z).symm)]
          obtain ⟨vs, xs, e2, h1, h2⟩ := h.li
          exact .cons ⟨h.key, h.kd, ⟨vs, xs, e2, by rw [upd_ne (fun z => n1.1 z.symm)]; exact h1, h2⟩, h.ine, h.nst, h.np, h.new⟩ (ih n1.2 n2.2)
      exact hm t nd.1 (by rw [← e]; exact nk.1)
    · rw [decide_eq_false e] at hq
      rw [if_neg (show ¬ nkT kv.1 = nkT d from fun z => by rw [h.key, hd] at z; exact e (Option.some.inj z))]
      have hqm : q ∈ qs.map (·.2.2) := by
        obtain ⟨y, hy, e2⟩ := Option.map_eq_some_iff.mp hq
        exact List.mem_map.mpr ⟨y, List.mem_of_find?_eq_some hy, e2⟩
      obtain ⟨vs, xs, e2, h1, h2⟩ := h.li
      exact .cons ⟨h.key, h.kd, ⟨vs, xs, e2, by rw [upd_ne (fun z => nd.1 (by rw [z]; exact hqm))]; exact h1, h2⟩, h.ine, h.nst, h.np, h.new⟩ (ih nd.2 nk.2 hq)
theorem GrpR.put (h : GrpR W st H0 I H p kvs o ks) {d : PyData} {k : NestedKey} (hd : nkT d = some k) {q : Addr} (hq : atX ks k = some q) {ws : List V} {ys : List PyData} (hw : DpAll W I ws ys) : GrpR W st H0 I (upd H q (.lst ws)) p (putT kvs d (.list ys)) o ks := by
  rcases rows_at h.rows hd with ⟨_, h2⟩ | ⟨xs, q2, vs, _, h2, _, _, _, _, h3, _⟩
  · rw [h2] at hq; cases hq
  · rw [h2] at hq
    cases hq
    exact ⟨by rw [upd_ne (fun z => h3 z.symm)]; exact h.at_, h.raw, rows_put h.rows h.nd h.raw.2.2.2.1 hd h2 hw, h.nd, h.ine, h.nst, h.new⟩
/-- a new key, with an empty list -/
theorem GrpR.snoc (h : GrpR W st H0 I H p kvs o ks) {q0 a : Addr} {d : PyData} {k : NestedKey} {o' : Obj} (hd : nkT d = some k) (kd : Dp W I (.ref a) d) (hq : H q0 = some (.lst [])) (ine : I q0 = none) (ns : q0 ≠ st) (np : q0 ≠ p) (new : H0 q0 = none)
    (hn : ∀ x ∈ ks, x.2.2 ≠ q0) (R : RawT W I p o' (ks ++ [(k, a, q0)])) : GrpR W st H0 I (upd H p (rawO p o')) p (kvs ++ [(d, .list [])]) o' (ks ++ [(k, a, q0)]) := by
  refine ⟨upd_same, R, ?_, ?_, h.ine, h.nst, h.new⟩
  · refine Paired.snoc (Paired.mapP h.rows fun kv x z => ?_) ⟨hd, kd, ⟨[], [], rfl, by rw [upd_ne np]; exact hq, .nil⟩, ine, ns, np, new⟩
    obtain ⟨vs, xs, e2, h1, h2⟩ := z.li
    exact ⟨z.key, z.kd, ⟨vs, xs, e2, by rw [upd_ne z.np]; exact h1, h2⟩, z.ine, z.nst, z.np, z.new⟩
  · rw [List.map_append]
    refine List.nodup_append.mpr ⟨h.nd, List.pairwise_singleton _ _, fun x hx b hb e => ?_⟩
    rw [List.mem_singleton.mp hb] at e
    obtain ⟨y, hy, rfl⟩ := List.mem_map.mp hx
    exact hn y hy e
end
end Sb
/-! P30: the loop that gathers lists by keys, as one statement. -/
/-! P31: sorted(d.items()), d a dict with tuples as keys. -/
/-! P32: the same in three statements: k = .., d.setdefault(k, []), d[k].append(v); sorted(d) with tuples as keys. -/
/-! P33: list(d.values()); len(set(a list of tuples)). -/
namespace Sb
open PySem PySem.Spec PyProof.Rows L2
def valsO (p : Addr) : Obj := { cls := .type "dict_values", data := .fields #[.ref p] }
def rValuesV (W : KW) : V → List V → Hp → VK → Prop := fun x xs H Q => ∃ I p kvs, x = .ref p ∧ xs = [] ∧ Im I H ∧ DAt W I H p kvs ∧ ∀ r, H r = none → Q (.ref r) (upd H r (rawO r (valsO p)))
def rListVs (W : KW) : List V → Hp → VK → Prop := fun vs H Q => ∃ I r p kvs, vs = [.ref r] ∧ Im I H ∧ H r = some (rawO r (valsO p)) ∧ DAt W I H p kvs ∧ ∀ as, DpAll W I as (kvs.map (·.2)) → ∀ q, H q = none → Q (.ref q) (upd H q (.lst as))
theorem valsT_dp {W : KW} {I : Hp} {t : Bool} : ∀ {kvs : List (PyData × PyData)} {es : List DictEntry}, Paired (EntR W I t) kvs es → ∃ as : List V, DpAll W I as (kvs.map (·.2)) ∧ Vals as (es.map (·.val)) := fun {kvs es} r => by
  induction r with
  | nil => exact ⟨[], .nil, .nil⟩
  | @cons p e ps es h t ih =>
    obtain ⟨a, b, ra, rb, da, db, hk⟩ := h
    obtain ⟨as, i1, i2⟩ := ih
    exact ⟨b :: as, .cons db i1, .cons rb i2⟩
section
variable {X : Cx}
theorem mt_valuesV : MtR X "dict.values" (rValuesV X.kw) := by
  intro pins s σ H x xs v us Q J rx rxs h
  obtain ⟨I, p, kvs, rfl, rfl, m, D, q⟩ := h
  obtain rfl : v = Value.ref p := rx
  cases rxs
  obtain ⟨o, h1, T⟩ := D
  obtain ⟨es, ep, e1, _⟩ := T.en
  have hg : s.heap.get? p = some o := (show ObjOk X.prog X.w H s.heap p (rawO p o) from J.hok p _ h1).1
  have raw : s.heap.DictRaw p es ep := ⟨o, hg, T.ex, e1⟩
  refine call_meetsIn F.slot_dict_values raw.typeIs F.entry_dict_values (F.args_dict_values_1 _) (meets_dict_values_raw p T.ns) ⟨⟨es, ep, raw⟩, ?_⟩
  exact ⟨.ref s.heap.objs.size, _, J.laid (a := s.heap.objs.size) (o := rawO s.heap.objs.size (valsO p)) (t' := s.toks) (fun _ _ q => Heap.get?_push_of_some _ q) (Nat.le_refl _) (raw_ok (Heap.get?_push_size _ rfl)), rfl, q _ (J.hok.fresh (Nat.le_refl _))⟩
theorem cr_listVs (hc : X.calm = true) : CallR X (.type "list") (rListVs X.kw) := by
  intro pins s σ H vs us Q J r ⟨I, v, p, kvs, e, m, hv, D, q⟩
  subst e
  obtain ⟨o, h1, T⟩ := D
  obtain ⟨es, ep, ee, re⟩ := T.en
  have hg : s.heap.get? p = some o := (show ObjOk X.prog X.w H s.heap p (rawO p o) from J.hok p _ h1).1
  have hgv : s.heap.get? v = some (valsO p) := (show ObjOk X.prog X.w H s.heap v (rawO v (valsO p)) from J.hok v _ hv).1
  obtain ⟨as, dp, ev⟩ := valsT_dp re
  have len0 : es.size = kvs.length := by rw [← Array.length_toList, ← Paired.length re]
  rw [Vals.ref1 r]
  refine PySem.W.kdl_call (PySem.KdlSrc.rawValues (r := v) (d := p) (es := es) (ep := ep)) (J.ok.hd hc) ⟨⟨_, hgv, rfl, rfl⟩, ⟨o, hg, T.ex, ee⟩⟩ (by rw [len0]; exact big_le T.len) fun h' tk acc c hk hS hacc => ?_
  have ea : acc.toList = es.toList.map (·.val) := by
    apply List.ext_getElem?
    intro i
    rw [List.getElem?_map, Array.getElem?_toList, Array.getElem?_toList]
    by_cases hi : i < es.size
    · have h2 : i < acc.size := by rw [hacc.1]; exact hi
      obtain ⟨_, z⟩ := hacc.2 i acc[i] (Array.getElem?_eq_getElem h2)
      rw [Array.getElem?_eq_getElem h2, Array.getElem?_eq_getElem hi, z]
      rfl
    · rw [Array.getElem?_eq_none (by rw [hacc.1]; omega), Array.getElem?_eq_none (by omega)]
      rfl
  have la : as.length ≤ sizeLine := by
    rw [DpAll.len dp, List.length_map]
    exact big_le T.len
  refine ⟨.ref s.heap.objs.size, upd H s.heap.objs.size (.lst as), J.laid (t' := tk) hk (Nat.le_refl _) ⟨la, acc.toList, c, by rw [ea]; exact ev, by rw [Array.toArray_toList]; exact hS⟩, rfl, q as dp _ (J.hok.fresh (Nat.le_refl _))⟩
variable {e : Expr} {f : FE} {K : KW}
def fListVs (f : FE) : FE := fun e n => match f e n with
  | some (sv, n1) => (match sv.dict with
    | some kvs => some (.cell (kvs.map (·.2)), n1)
    | none => none)
  | none => none
theorem e_listVs (h : PE X e (tCB (rListVs X.kw) (tCons (tMG0 (tyDt X.kw) (rValuesV X.kw) (tE X.kw f)) tNil))) : PE X e (tE X.kw (fListVs f)) := h.by fun σ H Q ⟨st, n, H0, I, ev, w, E, sv, n', q, k⟩ => by
  unfold fListVs at q
  split at q
  · rename_i s0 n1 q1
    split at q
    · rename_i kvs q2
      cases q
      refine ⟨st, n, H0, I, ev, w, E, s0, _, q1, fun v I1 H1 x1 r1 _ => ?_⟩
      obtain ⟨p, rfl, D⟩ := r1.dat x1.w.im q2
      refine ⟨⟨I1, p, kvs, rfl, x1.w.im, D⟩, I1, p, kvs, rfl, rfl, x1.w.im, D, fun r hr => ?_⟩
      have x2 := xt_raw (o := valsO p) x1.w hr
      obtain ⟨o, h1, T⟩ := D
      have hpr : p ≠ r := fun z => by rw [z, hr] at h1; cases h1
      refine ⟨I1, r, p, kvs, rfl, x2.w.im, upd_same, ⟨o, by rw [upd_ne hpr]; exact h1, T⟩, fun as dp q0 hq0 => ?_⟩
      obtain ⟨x4, k4, k5⟩ := sv_cellNew x2.w dp hq0
      exact k _ _ _ ((x1.trans x2).trans x4) k4 (Fr.back (x1.trans x2) k4 k5)
    · cases q
  · cases q
/-! ### how many unlike ones -/
variable {fa : FA} {P : Program} {w0 : World}
end
end Sb
/-! P25: dicts whose keys are ints: tables as data, y in d, d[y] = v. -/
namespace Sb
open PySem PySem.Spec PyProof.Rows L2
def ikT : PyData → Option Int
  | .int i => some i
  | _ => none
def getI (kvs : List (PyData × PyData)) (k : Int) : Option PyData := (kvs.find? fun kv => decide (ikT kv.1 = some k)).map (·.2)
def putI (kvs : List (PyData × PyData)) (k : Int) (z : PyData) : List (PyData × PyData) :=
  if (getI kvs k).isSome = true then kvs.map (fun kv => if ikT kv.1 = some k then (kv.1, z) else kv) else kvs ++ [(.int k, z)]
abbrev KI (W : KW) (I : Hp) (kv : PyData × PyData) (x : Int × Value) : Prop := kv.1 = .int x.1 ∧ ∃ b, RelV b x.2 ∧ Dp W I b kv.2
theorem getI_cons {kv : PyData × PyData} {kvs : List (PyData × PyData)} {k : Int} : getI (kv :: kvs) k = if ikT kv.1 = some k then some kv.2 else getI kvs k := by
  unfold getI
  rw [List.find?_cons]
  by_cases e : ikT kv.1 = some k
  · rw [decide_eq_true e, if_pos e]
    rfl
  · rw [decide_eq_false e, if_neg e]
theorem valueAt_cons {x : Int × Value} {xs : List (Int × Value)} {k : Int} : valueAt (x :: xs) k = if x.1 = k then some x.2 else valueAt xs k := by
  unfold valueAt
  rw [List.find?_cons]
  by_cases e : x.1 = k
  · rw [decide_eq_true e, if_pos e]
    rfl
  · rw [decide_eq_false e, if_neg e]
theorem getI_at {W : KW} {I : Hp} {kvs : List (PyData × PyData)} {xs : List (Int × Value)} (r : Paired (KI W I) kvs xs) {k : Int} :
    (getI kvs k = none ∧ valueAt xs k = none) ∨ ∃ z u b, getI kvs k = some z ∧ valueAt xs k = some u ∧ RelV b u ∧ Dp W I b z := by
  induction r with
  | nil => exact .inl ⟨rfl, rfl⟩
  | @cons p q ps qs h t ih =>
    rw [getI_cons, valueAt_cons]
    obtain ⟨h1, b, h3, h4⟩ := h
    by_cases e : q.1 = k
    · rw [if_pos (show ikT p.1 = some k by rw [h1, e]; rfl), if_pos e]
      exact .inr ⟨_, _, b, rfl, rfl, h3, h4⟩
    · rw [if_neg (show ¬ ikT p.1 = some k from fun z => by rw [h1] at z; exact e (Option.some.inj z)), if_neg e]
      exact ih
theorem getI_some {W : KW} {I : Hp} {kvs : List (PyData × PyData)} {xs : List (Int × Value)} (r : Paired (KI W I) kvs xs) {k : Int} : (getI kvs k).isSome = (valueAt xs k).isSome := by
  rcases getI_at (k := k) r with ⟨h1, h2⟩ | ⟨z, u, b, h1, h2, _⟩ <;> rw [h1, h2] <;> rfl
theorem any_at (k : Int) : ∀ xs : List (Int × Value), (xs.any fun kv => decide (kv.1 = k)) = (valueAt xs k).isSome
  | [] => rfl
  | x :: xs => by
    rw [List.any_cons, valueAt_cons, any_at k xs]
    by_cases e : x.1 = k
    · rw [decide_eq_true e, if_pos e]
      rfl
    · rw [decide_eq_false e, if_neg e]
      rfl
theorem putI_at {W : KW} {I : Hp} {kvs : List (PyData × PyData)} {xs : List (Int × Value)} (r : Paired (KI W I) kvs xs) {k : Int} {z : PyData} {b : V} {u : Value} (h2 : RelV b u) (h3 : Dp W I b z) :
    Paired (KI W I) (putI kvs k z) (stored xs k u) := by
  unfold putI stored
  rw [getI_some r, any_at]
  by_cases e : (valueAt xs k).isSome = true
  · rw [if_pos e, if_pos e]
    clear e
    induction r with
    | nil => exact .nil
    | @cons p x ps xs h t ih =>
      rw [List.map_cons, List.map_cons]
      refine .cons ?_ ih
      obtain ⟨g1, c, g3, g4⟩ := h
      by_cases e : x.1 = k
      · rw [if_pos (show ikT p.1 = some k by rw [g1, e]; rfl), if_pos e]
        exact ⟨g1, b, h2, h3⟩
      · rw [if_neg (show ¬ ikT p.1 = some k from fun z => by rw [g1] at z; exact e (Option.some.inj z)), if_neg e]
        exact ⟨g1, c, g3, g4⟩
  · rw [if_neg e, if_neg e]
    exact Paired.snoc r ⟨rfl, b, h2, h3⟩
theorem putI_len (kvs : List (PyData × PyData)) (k : Int) (z : PyData) : (putI kvs k z).length ≤ kvs.length + 1 := by
  unfold putI
  split
  · rw [List.length_map]
    omega
  · rw [List.length_append]
    exact Nat.le_refl _
theorem nodup_ofI {W : KW} {I : Hp} {kvs : List (PyData × PyData)} {xs : List (Int × Value)} (r : Paired (KI W I) kvs xs) : (kvs.map (·.1)).Nodup ↔ (xs.map (·.1)).Nodup := by
  have e : kvs.map (·.1) = (xs.map (·.1)).map PyData.int := by
    induction r with
    | nil => rfl
    | @cons p x ps xs h t ih => rw [List.map_cons, List.map_cons, List.map_cons, h.1, ih]
  rw [e]
  constructor
  · intro h
    exact List.Pairwise.imp (fun hne e => hne (by rw [e])) (List.pairwise_map.mp h)
  · intro h
    exact List.pairwise_map.mpr (List.Pairwise.imp (fun hne e => hne (by injection e)) h)
def DAtI (W : KW) (I H : Hp) (p : Addr) (kvs : List (PyData × PyData)) : Prop := ∃ o, H p = some (rawO p o) ∧ TabR W I p o false kvs
theorem ents_ofI {W : KW} {I : Hp} {kvs : List (PyData × PyData)} : ∀ {es : List DictEntry}, Paired (EntR W I false) kvs es → ∃ xs, (∀ e ∈ es, ∃ k, (intKind W.P W.w).is k e.key = true ∧ e.hash = (intKind W.P W.w).hash k) ∧ Pairs (intKind W.P W.w) es xs ∧ Paired (KI W I) kvs xs := fun {es} r => by
  induction r with
  | nil => exact ⟨[], (fun e h => nomatch h), .nil, .nil⟩
  | @cons p e ps es h t ih =>
    obtain ⟨xs, r1, r2, r3⟩ := ih
    obtain ⟨a, b, ra, rb, da, db, hk⟩ := h
    unfold keyH at hk
    rw [if_neg (by decide)] at hk
    split at hk
    · rename_i i q
      have hh := Option.some.inj hk
      rw [q] at da
      cases da
      obtain ⟨t, et⟩ := ra
      have ik : (intKind W.P W.w).is i e.key = true := by rw [et]; exact intKind_is _ _ _ _
      refine ⟨(i, e.val) :: xs, fun x hx => ?_, .cons ik rfl r2, .cons ⟨q, b, rb, db⟩ r3⟩
      rcases List.mem_cons.mp hx with z | z
      · rw [z]
        exact ⟨i, ik, hh.symm⟩
      · exact r1 x z
    · cases hk
theorem ents_toI {W : KW} {I : Hp} {xs : List (Int × Value)} {es : List DictEntry} (hp : Pairs (intKind W.P W.w) es xs) : ∀ {kvs : List (PyData × PyData)}, (∀ e ∈ es, ∃ k, (intKind W.P W.w).is k e.key = true ∧ e.hash = (intKind W.P W.w).hash k) → Paired (KI W I) kvs xs → Paired (EntR W I false) kvs es := by
  induction hp with
  | nil =>
    intro kvs hk r
    cases r
    exact .nil
  | @cons e kv es xs h1 h2 h3 ih =>
    intro kvs hk r
    cases r with
    | @cons pp _ ps _ g t =>
      refine .cons ?_ (ih (fun x hx => hk x (List.mem_cons_of_mem _ hx)) t)
      obtain ⟨g1, b, g2, g3⟩ := g
      obtain ⟨tk, et⟩ := Value.isInt_shape h1
      obtain ⟨k, k1, k2⟩ := hk e List.mem_cons_self
      obtain ⟨tk2, et2⟩ := Value.isInt_shape k1
      rw [et] at et2
      injection et2 with ek
      refine ⟨.int kv.1, b, ⟨tk, et⟩, by rw [h2]; exact g2, by rw [g1]; exact .int _, g3, ?_⟩
      unfold keyH
      rw [if_neg (by decide), g1, k2, ← ek]
      rfl
theorem tab_ofI {W : KW} {I : Hp} {h : Heap} {p : Addr} {kvs : List (PyData × PyData)} {xs : List (Int × Value)} (ns : (p == sysModules) = false) (hl : kvs.length ≤ big) (dd : h.DictOf (intKind W.P W.w) p xs) (r : Paired (KI W I) kvs xs) : ∃ o, h.get? p = some o ∧ TabR W I p o false kvs := by
  obtain ⟨o, es, ep, h1, h2, h3, h4, h5, h6⟩ := dd
  refine ⟨o, h1, ns, h2, hl, (nodup_ofI r).mpr h6, es, ep, h3, ?_⟩
  exact ents_toI h5 (fun e he => h4 e (Array.mem_toList_iff.mp he)) r
section
variable {X : Cx} {pins : List (Addr × Obj)} {σ : L2.St} {H I : Hp} {s : Shared} {p : Addr} {kvs : List (PyData × PyData)}
theorem d_atI (J : Inv X pins σ H s) (D : DAtI X.kw I H p kvs) : (p == sysModules) = false ∧ kvs.length ≤ big ∧ ∃ xs, s.heap.DictOf (intKind X.prog X.w) p xs ∧ Paired (KI X.kw I) kvs xs := by
  obtain ⟨o, h1, T⟩ := D
  obtain ⟨es, ep, e, r⟩ := T.en
  obtain ⟨xs, r1, r2, r3⟩ := ents_ofI r
  have hg : s.heap.get? p = some o := (show ObjOk X.prog X.w H s.heap p (rawO p o) from J.hok p _ h1).1
  exact ⟨T.ns, T.len, xs, ⟨o, es, ep, hg, T.ex, e, fun x hx => r1 x (Array.mem_toList_iff.mpr hx), r2, (nodup_ofI r3).mp T.nd⟩, r3⟩
/-! ### y in d, d[y], d[y] = v -/
def rInI (W : KW) (neg : Bool) : R2 := fun y x H Q => ∃ I p kvs k, x = .ref p ∧ Im I H ∧ DAtI W I H p kvs ∧ y = .int k ∧ Q (.bl ((getI kvs k).isSome != neg)) H
theorem op_inI : OpR X (compareOp .In) (rInI X.kw false) := by
  intro pins s σ H y x u v Q J ry rx h
  obtain ⟨I, p, kvs, k, rfl, m, D, rfl, q⟩ := h
  obtain rfl : v = Value.ref p := rx
  obtain ⟨t, rfl⟩ := ry
  obtain ⟨ns, _, xs, dd, r⟩ := d_atI J D
  refine wpAny_in_of (knd := intKind X.prog X.w) (intKind_is _ _ _ _) ns dd.mapOf ⟨.bl _, H, J.tok _, ?_, q⟩
  rw [getI_some r, Bool.bne_false]
  rfl
theorem d_setI {A : Around} {E : Value → Shared → Prop} {Q : Unit → Shared → Prop} {b : V} {u r : Value} {z : PyData} {k : Int} (J : Inv X pins σ H s) (D : DAtI X.kw I H p kvs) (hl : kvs.length < big) (hz : Dp X.kw I b z)
    (ry : RelV (.int k) u) (rb : RelV b r) (h : ∀ o s', TabR X.kw I p o false (putI kvs k z) → Inv X pins σ (upd H p (rawO p o)) s' → Q () s') : wpAny (model X.prog X.w) A (setItem (.ref p) u r) Q E s := by
  obtain ⟨ns, _, xs, dd, re⟩ := d_atI J D
  obtain ⟨t, rfl⟩ := ry
  have hz2 : xs.length ≤ sizeLine := by rw [← Paired.length re]; exact big_le (Nat.le_of_lt hl)
  refine wpAny_setItem_pairs (knd := intKind X.prog X.w) (hsz := hz2) (intKind_is _ _ _ _) dd fun h' dd' hs => ?_
  have r2 := putI_at (k := k) re rb hz
  obtain ⟨o, ho, T⟩ := tab_ofI (W := X.kw) ns (by have := putI_len kvs k z; omega) dd' r2
  obtain ⟨o0, h0, _⟩ := D
  exact h o _ T (d_write J (by rw [h0]; exact True.intro) hs ⟨o, ho⟩ (raw_ok ho))
def inIG (neg : Bool) : Sv → Sv → Option Sv := fun a b => match a, b with
  | .d (.int k), .tab false kvs => some (.d (.bool ((getI kvs k).isSome != neg)))
  | .d (.int k), .btab false kvs => some (.d (.bool ((getI kvs k).isSome != neg)))
  | .d (.int k), .ktab false kvs => some (.d (.bool ((getI kvs k).isSome != neg)))
  | _, _ => none
end
end Sb
/-! P26: dicts whose keys are ints: y in d, d[k] = v as they are evaluated. -/
namespace Sb
open PySem PySem.Spec PyProof.Rows L2
theorem SvR.datI {W : KW} {st : Stt} {I H : Hp} {v : V} {sv : Sv} {kvs : List (PyData × PyData)} (m : Im I H) (h : SvR W st I H v sv) (e : sv = .tab false kvs ∨ sv = .btab false kvs ∨ sv = .ktab false kvs) : ∃ p, v = .ref p ∧ DAtI W I H p kvs := by
  rcases e with rfl | rfl | rfl
  · obtain ⟨p, o, e1, h1, _, _, h2⟩ := h
    exact ⟨p, e1, o, h1, h2⟩
  · obtain ⟨p, o, e1, h1, _, _, h2⟩ := h
    exact ⟨p, e1, o, h1, h2⟩
  · obtain ⟨p, o, e1, h1, h2⟩ := h
    exact ⟨p, e1, o, m.sub _ _ h1, h2⟩
theorem rd_inI {W : KW} {neg : Bool} : RDo W (rInI W neg) (inIG neg) := by
  intro st n I H x y a b sv Q w ra rb e k
  unfold inIG at e
  split at e
  · rename_i i kvs
    cases e
    cases ra
    obtain ⟨p, rfl, D⟩ := rb.datI w.im (.inl rfl)
    exact ⟨I, p, kvs, i, rfl, w.im, D, rfl, k _ I H (.refl w) (.bl _) trivial⟩
  · rename_i i kvs
    cases e
    cases ra
    obtain ⟨p, rfl, D⟩ := rb.datI w.im (.inr (.inl rfl))
    exact ⟨I, p, kvs, i, rfl, w.im, D, rfl, k _ I H (.refl w) (.bl _) trivial⟩
  · rename_i i kvs
    cases e
    cases ra
    obtain ⟨p, rfl, D⟩ := rb.datI w.im (.inr (.inr rfl))
    exact ⟨I, p, kvs, i, rfl, w.im, D, rfl, k _ I H (.refl w) (.bl _) trivial⟩
  · cases e
def sTPutI (W : KW) (td ty tv : TE) : TS := fun D σ H => tv σ H fun v H1 => td σ H1 fun x H2 => ty σ H2 fun y H3 => ∃ I p kvs k z, x = .ref p ∧ Im I H3 ∧ DAtI W I H3 p kvs ∧ kvs.length < big ∧ y = .int k ∧ Dp W I v z ∧ ∀ o, TabR W I p o false (putI kvs k z) → D.nx σ (upd H3 p (rawO p o))
def tabAtI (e : Ev) (i : Nat) : Option (List (PyData × PyData)) := match e[i]? with
  | some (some (.tab false kvs)) => some kvs
  | _ => none
theorem tabAtI_eq {e : Ev} {i : Nat} {kvs : List (PyData × PyData)} (h : tabAtI e i = some kvs) : e[i]? = some (some (.tab false kvs)) := by
  unfold tabAtI at h
  split at h
  · rename_i q
    cases h
    exact q
  · cases h
def sPutI (i : Nat) (fk fv : FE) : FS := fun e n => match fv e n with
  | none => none
  | some (sv, n1) => match sv.take with
    | none => none
    | some z => match fk e n1 with
      | some (.d (.int k), n2) => (match tabAtI e i with
        | none => none
        | some kvs => if kvs.length < big then some (.nx, e.set i (some (.tab false (putI kvs k z))), n2) else none)
      | _ => none
section
variable {X : Cx} {o i value e : Expr} {pos pos' : Pos} {td ty tv : TE} {f fk fv : FE}
theorem ps_tputI (ho : PE X o td) (hi : PE X i ty) (hv : PE X value tv) (hs : swapsWith value (some (.Subscript o i pos')) pos.line X.env = pure false) :
    PS X (.Assign [.Subscript o i pos'] value pos) (sTPutI X.kw td ty tv) := by
  refine ⟨fun pins s σ H D J h => ?_⟩
  refine wpAny_Assign_Subscript (thn (hv.run pins s σ H _ J h) fun r s1 ⟨v, H1, J1, rv, q1⟩ => thn (ho.run pins s1 σ H1 _ J1 q1) fun u s2 ⟨x, H2, J2, rx, q2⟩ => thn (hi.run pins s2 σ H2 _ J2 q2) fun iv s3 ⟨y, H3, J3, ry, I, p, kvs, k, z, ex, m, dt, hl, ey, hz, q3⟩ => ?_) hs
  subst ex
  subst ey
  obtain rfl : u = Value.ref p := rx
  exact d_setI J3 dt hl hz ry rv fun ob s4 T J4 => ⟨σ, _, J4, q3 ob T⟩
theorem s_putI {s : Stmt} {i : Nat} (h : PS X s (sTPutI X.kw (tVar i) (tE X.kw fk) (tE X.kw fv))) : PS X s (tSs X.kw (sPutI i fk fv)) := h.by fun D σ H ⟨st, n, I0, H0, I, e, x, E, fl, e', n', q, k⟩ => by
  unfold sPutI at q
  split at q
  · cases q
  · rename_i sv n1 q1
    split at q
    · cases q
    · rename_i z q2
      split at q
      · rename_i kk n2 q3
        split at q
        · cases q
        · rename_i kvs q4
          split at q
          · rename_i hh
            cases q
            refine ⟨st, n, H0, I, e, x.w, E, sv, n1, q1, fun v I1 H1 x1 r1 f1 => ?_⟩
            obtain ⟨I2, x2, _, k2⟩ := SvR.keep x1 r1 f1 q2
            have E2 := E.mono x2
            obtain ⟨vp, h1, ⟨p, o, ev, _⟩, _⟩ := E2.at_ i _ (tabAtI_eq q4)
            subst ev
            refine ⟨.ref p, h1, st, n1, H0, I2, e, x2.w, E2, .d (.int kk), _, q3, fun y I3 H3 x3 r3 _ => ?_⟩
            cases r3
            have E3 := E2.mono x3
            obtain ⟨vp2, g1, ⟨p2, o2, ev2, g2, g3, g4, g5⟩, _⟩ := E3.at_ i _ (tabAtI_eq q4)
            rw [h1] at g1
            cases g1
            cases ev2
            refine ⟨I3, p, kvs, kk, z, rfl, x3.w.im, ⟨o2, g2, g5⟩, hh, rfl, Dp.mono x3.ii _ _ k2, fun ob T => ?_⟩
            obtain ⟨y1, y2⟩ := Er.putT ((x.trans x2).trans x3) E3 (tabAtI_eq q4) h1 T
            exact k σ I3 _ y1 y2 (x2.ii.trans x3.ii)
          · cases q
      · cases q
end
end Sb
/-! P27: comprehensions of dicts with int keys. -/
/-! P28: sorted(d), d a dict with int keys. -/
/-! P37: {k: v} with a tuple for k, d.get(k, v). -/
namespace Sb
open PySem PySem.Spec PyProof.Rows L2
section
variable {X : Cx} {pins : List (Addr × Obj)} {σ : L2.St} {H I : Hp} {s : Shared}
def rGetDT (W : KW) : V → List V → Hp → VK → Prop := fun x xs H Q => ∃ I p kvs y b d k, x = .ref p ∧ xs = [y, b] ∧ Im I H ∧ DAt W I H p kvs ∧ Dp W I y d ∧ nkT d = some k ∧
  (∀ e v, getT kvs d = some e → Dp W I v e → Q v H) ∧ (getT kvs d = none → Q b H)
theorem mt_getDT (hu : X.A.units + 64 < cLine) : MtR X "dict.get" (rGetDT X.kw) := by
  intro pins s σ H x xs v us Q J rx rxs h
  obtain ⟨I, p, kvs, y, b, d, k, rfl, rfl, m, D, hd, hk, q1, q2⟩ := h
  obtain rfl : v = Value.ref p := rx
  obtain ⟨u1, u2, rfl, r1, r2⟩ := vals2 rxs
  obtain ⟨ns, _, xs, dd, re⟩ := d_at J m D
  obtain ⟨a, rfl, rfl, ki⟩ := nkT_is J m hd hk r1
  refine call_meetsIn PySem.F.slot_dict_get dd.typeIs PySem.F.entry_dict_get (PySem.F.args_dict_get_3 _ _ _) (meetsH_dict_get_default (nestedKind X.prog X.w) p a ns u2) ⟨(by show X.A.in1.units + 8 < cLine; have : X.A.in1.units = X.A.units + 1 := rfl; omega), k, xs, ki, dd, ?_⟩
  rcases getT_at re hk with ⟨g1, g2⟩ | ⟨z2, a2, u3, b3, g1, g2, g3, g4⟩
  · rw [g2]
    exact ⟨b, H, J.tok _, r2, q2 g1⟩
  · rw [g2]
    exact ⟨b3, H, J.tok _, g3, q1 z2 b3 g1 g4⟩
/-- d.get(k, v) of a dict of one's own -/
def fGetT (i : Nat) (fk fv : FE) : FE := fun e n => match fk e n with
  | some (.d d, n1) => (match fv e n1 with
    | some (.d z, n2) => (match tabAt e i with
      | some kvs => if (nkT d).isSome = true then some (.d ((getT kvs d).getD z), n2) else none
      | none => none)
    | _ => none)
  | _ => none
theorem e_getDT {e : Expr} {fk fv : FE} {i : Nat} (h : PE X e (tMG (tyDt X.kw) (rGetDT X.kw) (tVar i) (tCons (tE X.kw fk) (tCons (tE X.kw fv) tNil)))) : PE X e (tE X.kw (fGetT i fk fv)) := h.by fun σ H Q ⟨st, n, H0, I, e, w, E, sv, n', q, k⟩ => by
  unfold fGetT at q
  split at q
  · rename_i d n1 q1
    split at q
    · rename_i z n2 q2
      split at q
      · rename_i kvs q4
        split at q
        · rename_i hh
          cases q
          obtain ⟨kk, hkk⟩ := Option.isSome_iff_exists.mp hh
          obtain ⟨vp, h1, ⟨p, o, ev, g2, g3, g4, g5⟩, _⟩ := E.at_ i _ (tabAt_eq q4)
          subst ev
          refine ⟨.ref p, h1, ⟨I, p, kvs, rfl, w.im, o, g2, g5⟩, st, n, H0, I, e, w, E, .d d, n1, q1, fun y I1 H1 x1 r1 _ => ?_⟩
          have E1 := E.mono x1
          refine ⟨st, n1, H0, I1, e, x1.w, E1, .d z, _, q2, fun v I2 H2 x2 r2 f2 => ?_⟩
          have E2 := E1.mono x2
          obtain ⟨vp2, t1, ⟨p2, o2, ev2, t2, t3, t4, t5⟩, _⟩ := E2.at_ i _ (tabAt_eq q4)
          rw [h1] at t1
          cases t1
          cases ev2
          refine ⟨I2, p, kvs, y, v, d, kk, rfl, rfl, x2.w.im, ⟨o2, t2, t5⟩, Dp.mono x2.ii _ _ r1, hkk, fun e2 u hw hu => ?_, fun hn => ?_⟩
          · have := k u I2 H2 (x1.trans x2)
            rw [hw] at this
            exact this hu trivial
          · have := k v I2 H2 (x1.trans x2)
            rw [hn] at this
            exact this r2 trivial
        · cases q
      · cases q
    · cases q
  · cases q
/-! {k: v} -/
def tOneT (W : KW) (tk tv : TE) : TE := fun σ H Q => ∀ p, H p = none → (∀ I, TabR W I p d0 true []) → tk σ (upd H p (rawO p d0)) fun x H2 => tv σ H2 fun y H3 => H3 p = some (rawO p d0) ∧ ∃ I d k z, Im I H3 ∧ Dp W I x d ∧ nkT d = some k ∧ Dp W I y z ∧ ∀ o, TabR W I p o true [(d, z)] → Q (.ref p) (upd H3 p (rawO p o))
theorem pe_oneT {ek ev : Expr} {pos : Pos} {tk tv : TE} (hu : X.A.units + 64 < cLine) (hk : PE X ek tk) (hv : PE X ev tv) : PE X (.Dict [some ek] [ev] pos) (tOneT X.kw tk tv) := by
  refine ⟨fun pins s σ H Q J h => ?_⟩
  have hn := J.hok.fresh (Nat.le_refl s.heap.objs.size)
  have ns : (s.heap.objs.size == sysModules) = false := beq_eq_false_iff_ne.mpr (Nat.ne_of_gt J.big)
  have J1 := J.laid (a := s.heap.objs.size) (o := rawO s.heap.objs.size d0) (h' := s.heap.push { cls := .type "dict", data := .dict #[] }) (t' := s.toks) (fun _ _ q => Heap.get?_push_of_some _ q) (Nat.le_refl _) (raw_ok (Heap.get?_push_size _ rfl))
  rw [arm_eval_Dict, show (evalEachOpt [some ek] X.env).zip ((evalEach [ev] X.env).map fun v => do let x ← v; standAt pos; pure x) = (pairTrees [some ek] [ev] X.env pos).map (fun p => (some p.1, p.2)) from zip_pairTrees _ _ _ _ rfl rfl, dictDisplay_pairs _ (by intro z; cases z) (by show 1 < 17; decide)]
  refine wpAny_bind (wpAny_standAt (wpAny_bind (wpAny_subDictH (knd := nestedKind X.prog X.w) (Q := fun d s' => wpAny (model X.prog X.w) X.A (pure (Value.ref d)) (EP X pins σ Q) X.xe s') (by show X.A.units + 8 < cLine; omega) (by show 1 ≤ 15; decide) ?_)))
  refine pairTrees_cons_walk (thn (hk.run pins _ σ _ _ J1 (h _ hn fun I => tab_nil ns)) fun u1 s1 ⟨x, H2, J2, rx, q1⟩ => thn (hv.run pins s1 σ H2 _ J2 q1) fun u2 s2 ⟨y, H3, J3, ry, q2⟩ => pairTrees_nil_walk ?_)
  obtain ⟨h3, I, d, k, z, m, hd, hkk, hz, q3⟩ := q2
  obtain ⟨a, rfl, rfl, ki⟩ := nkT_is J3 m hd hkk rx
  have D0 : DAt X.kw I H3 s.heap.objs.size [] := ⟨d0, h3, tab_nil ns⟩
  obtain ⟨_, _, xs, dd, re⟩ := d_at J3 m D0
  cases re
  refine ⟨[(k, a, u2)], ⟨rfl, rfl, ki, trivial⟩, dd, fun h' tk dd' hs => wpAny_pure ?_⟩
  have r3 : Paired (KR X.kw I) [(d, z)] (storedAllH [] [(k, a, u2)]) := putT_at (kvs := []) .nil hkk hd ry hz
  obtain ⟨o, ho, T⟩ := tab_of (W := X.kw) ns (by show 1 ≤ 100000; decide) dd' r3
  exact ⟨.ref _, _, d_write J3 (by rw [h3]; exact True.intro) hs ⟨o, ho⟩ (raw_ok ho), rfl, q3 o T⟩
def fOneT (fk fv : FE) : FE := fun e n => match fk e n with
  | some (.d d, n1) => (match fv e n1 with
    | some (.d z, n2) => if (nkT d).isSome = true then some (.tab true [(d, z)], n2) else none
    | _ => none)
  | _ => none
theorem e_oneT {e : Expr} {fk fv : FE} (h : PE X e (tOneT X.kw (tE X.kw fk) (tE X.kw fv))) : PE X e (tE X.kw (fOneT fk fv)) := h.by fun σ H Q ⟨st, n, H0, I, e, w, E, sv, n', q, k⟩ p hp hT => by
  unfold fOneT at q
  split at q
  · rename_i d n1 q1
    split at q
    · rename_i z n2 q2
      split at q
      · rename_i hh
        cases q
        obtain ⟨kk, hkk⟩ := Option.isSome_iff_exists.mp hh
        have x0 : Xt st n I H I (upd H p (rawO p d0)) := xt_raw w hp
        refine ⟨st, n, H0, I, e, x0.w, E.mono x0, .d d, n1, q1, fun y I1 H1 x1 r1 _ => ?_⟩
        refine ⟨st, n1, H0, I1, e, x1.w, (E.mono x0).mono x1, .d z, _, q2, fun v I2 H2 x2 r2 _ => ?_⟩
        have hs := w.ne_st hp
        have e0 : upd H p (rawO p d0) p = some (rawO p d0) := upd_same
        have e2 : H2 p = some (rawO p d0) := x2.hh p _ hs (x1.hh p _ hs e0)
        have i2 : I2 p = none := by
          rw [x2.old p _ (x1.hh p _ hs e0), x1.old p _ e0]
          exact w.ine hp
        refine ⟨e2, I2, d, kk, z, x2.w.im, Dp.mono x2.ii _ _ r1, hkk, r2, fun o T => ?_⟩
        exact k _ I2 _ (Xt.putO ((x0.trans x1).trans x2) hp i2 hs rawO_tup) ⟨p, o, rfl, upd_same, i2, hs, T⟩ fun p2 e => by cases e; exact hp
      · cases q
    · cases q
  · cases q
/-! {} whose keys are to be ints -/
def fNewI : FE := fun _ n => some (.tab false [], n)
theorem tab_nil37 {W : KW} {I : Hp} {p : Addr} (T : TabR W I p d0 true []) : TabR W I p d0 false [] := by
  obtain ⟨es, ep, e, q⟩ := T.en
  refine ⟨T.ns, T.ex, T.len, T.nd, es, ep, e, ?_⟩
  cases h : es.toList with
  | nil => exact .nil
  | cons a l =>
    rw [h] at q
    cases q
theorem e_newI {e : Expr} (h : PE X e (tNewT X.kw)) : PE X e (tE X.kw fNewI) := h.by fun σ H Q ⟨st, n, H0, I, ev, w, E, sv, n', q, k⟩ p hp hT => by
  cases q
  exact k _ I _ (xt_raw w hp) ⟨p, d0, rfl, upd_same, w.ine hp, w.ne_st hp, tab_nil37 (hT I)⟩ fun p2 e => by cases e; exact hp
theorem op_notInI : OpR X (compareOp .NotIn) (rInI X.kw true) := by
  intro pins s σ H y x u v Q J ry rx h
  obtain ⟨I, p, kvs, k, rfl, m, D, rfl, q⟩ := h
  obtain rfl : v = Value.ref p := rx
  obtain ⟨t, rfl⟩ := ry
  obtain ⟨ns, _, xs, dd, r⟩ := d_atI J D
  refine wpAny_notIn_of (knd := intKind X.prog X.w) (intKind_is _ _ _ _) ns dd.mapOf ⟨.bl _, H, J.tok _, ?_, q⟩
  rw [getI_some r, Bool.bne_true]
  rfl
end
end Sb
/-! P56: tuples whose object is known to have no dict (xt), lists of one's own of such (xc): t + (x,), [t], xs.extend(..), t.index(x), a loop over such a list. -/
namespace L2
open PySem PySem.Spec PyProof.Rows HT
section
variable {X : Cx} {e : Expr} {es : List Expr} {t : TA} {pos : Pos}
/-- a tuple written out, its object known -/
def tTupX (t : TA) : TE := fun σ H Q => t σ H fun xs H1 => xs.length ≤ sizeLine ∧ ∀ p o, H1 p = none → o.cls = .type "tuple" → o.dict = none → Q (.ref p) (upd H1 p (.frz o (.tup xs)))
theorem pe_tupX {x1} (h : PA X es t) : PE X (.Tuple es x1 pos) (tTupX t) := by
  refine ⟨fun pins s σ H Q I hq => ?_⟩
  refine wpAny_Tuple_spliced (thn (h.run pos pins s σ H _ I hq) fun us s1 ⟨xs, H1, I1, r, z, q⟩ => ⟨by rw [← r.length]; exact z, ?_⟩)
  have hf : H1 s1.heap.objs.size = none := I1.hok.fresh (Nat.le_refl _)
  exact ⟨.ref s1.heap.objs.size, upd H1 s1.heap.objs.size (.frz { cls := .type "tuple", data := .seq us.toArray } (.tup xs)), I1.laid (t' := s1.toks) (fun b u e => Heap.get?_push_of_some _ e) (Nat.le_refl _) ⟨Heap.get?_push_size _ rfl, z, us, r, ⟨_, Heap.get?_push_size _ rfl, rfl, _, rfl⟩⟩, rfl, q _ _ hf rfl rfl⟩
/-- t + u, u not empty, its object known -/
def rCatX (K : PySem.W.Frag) : R2 := fun x y H Q => ∃ a b xs ys, x = .ref a ∧ y = .ref b ∧ SqT K H a xs ∧ SqT K H b ys ∧ xs.length + ys.length ≤ sizeLine ∧ ys ≠ [] ∧
  (xs = [] → Q (.ref b) H) ∧ (xs ≠ [] → ∀ p o, H p = none → o.cls = .type "tuple" → o.dict = none → Q (.ref p) (upd H p (.frz o (.tup (xs ++ ys)))))
theorem op_catX : OpR X (binaryOp .Add) (rCatX X.K) := by
  intro pins s σ H x y v u Q I rx ry h
  obtain ⟨a, b, xs, ys, rfl, rfl, ha, hb, hz, hy, q0, q2⟩ := h
  cases rx
  cases ry
  obtain ⟨its, r1, p1, _⟩ := I.tuple ha
  obtain ⟨its2, r2, p2, _⟩ := I.tuple hb
  by_cases hx : xs = []
  · subst hx
    cases r1
    exact cat_tup0 p1 p2 ⟨.ref b, H, I, rfl, q0 rfl⟩
  · refine HT.cat_tup p1 p2 (fun z => hx (r1.nil_iff.mp z)) (fun z => absurd (r2.nil_iff.mp z) hy) (fun z => ?_) (by rw [← r1.length, ← r2.length]; exact hz)
    refine ⟨.ref s.heap.objs.size, upd H s.heap.objs.size (.frz { cls := .type "tuple", data := .seq (its ++ its2).toArray } (.tup (xs ++ ys))), I.laid (t' := s.toks) (fun b ob q => Heap.get?_push_of_some _ q) (Nat.le_refl _) ?_, rfl, q2 hx _ _ (I.hok.fresh (Nat.le_refl _)) rfl rfl⟩
    exact ⟨Heap.get?_push_size _ rfl, by rw [List.length_append]; exact hz, _, r1.append r2, IsTup.new _ _⟩
/-- t.index(k): numbers -/
def tyX (x : V) (H : Hp) : Prop := ∃ p vs o, x = .ref p ∧ H p = some (.frz o (.tup vs)) ∧ o.cls = .type "tuple" ∧ o.dict = none
theorem ty_X : TyOk X "tuple" tyX := by
  intro pins σ H s x v I r ty
  obtain ⟨p, vs, o, rfl, h1, h2, h3⟩ := ty
  cases r
  obtain ⟨h, _⟩ : ObjOk X.prog X.w H s.heap p (.frz o (.tup vs)) := I.hok p _ h1
  refine ⟨⟨_, h, h2⟩, fun b e => ?_⟩
  cases e
  exact ⟨_, h, h3⟩
def rIdxT (K : PySem.W.Frag) : V → List V → Hp → VK → Prop := fun x xs H Q => ∃ (p : Addr) (ns : List Int) (k : Int), x = .ref p ∧ SqT K H p (ns.map V.int) ∧ xs = [.int k] ∧ k ∈ ns ∧ Q (.int (ns.idxOf k : Nat)) H
theorem mt_idxT : MtR X "tuple.index" (rIdxT X.K) := by
  intro pins s σ H x xs v us Q I rx rs h
  obtain ⟨p, ns, k, rfl, hp, rfl, hk, q⟩ := h
  cases rx
  obtain ⟨u, rfl, ru⟩ := vals1 rs
  obtain ⟨t, rfl⟩ := ru
  obtain ⟨its, r1, p1, _⟩ := I.tuple hp
  exact SeqAt.tuple_index_ints p1 (intsAre_of r1) hk ⟨.int (ns.idxOf k : Nat), H, I.tok _, ⟨_, rfl⟩, q⟩
end
end L2
namespace Sb
open PySem PySem.Spec PyProof.Rows L2
def xtAt (e : Ev) (i : Nat) : Option (List PyData) := match e[i]? with
  | some (some (.xt xs)) => some xs
  | some (some (.d (.tuple []))) => some []
  | _ => none
def xcAt (e : Ev) (i : Nat) : Option (List (List PyData)) := match e[i]? with
  | some (some (.xc xs)) => some xs
  | _ => none
theorem xcAt_eq {e : Ev} {i : Nat} {xs : List (List PyData)} (h : xcAt e i = some xs) : e[i]? = some (some (.xc xs)) := by
  unfold xcAt at h
  split at h
  · rename_i q
    cases h
    exact q
  · cases h
theorem XTs.get {K : KW} {I : Hp} : ∀ {vs : List V} {xss : List (List PyData)} {i : Nat} {v : V}, XTs K I vs xss → vs[i]? = some v → ∃ d, xss[i]? = some d ∧ XT K I v d
  | _, _, _, _, .nil, h => by simp at h
  | _, _, 0, v, .cons r _, h => by
    simp at h
    subst h
    exact ⟨_, rfl, r⟩
  | _, _, i + 1, v, .cons _ t, h => by
    obtain ⟨d, h1, h2⟩ := XTs.get (i := i) (v := v) t (by simpa using h)
    exact ⟨d, by simpa using h1, h2⟩
theorem XTs.len {K : KW} {I : Hp} {vs : List V} {xss : List (List PyData)} (h : XTs K I vs xss) : vs.length = xss.length := Paired.length h
theorem XTs.app {K : KW} {I : Hp} : ∀ {vs ws : List V} {xs ys : List (List PyData)}, XTs K I vs xs → XTs K I ws ys → XTs K I (vs ++ ws) (xs ++ ys)
  | _, _, _, _, .nil, h => h
  | _, _, _, _, .cons r t, h => .cons r (XTs.app t h)
def intsX : List PyData → Option (List Int)
  | [] => some []
  | .int i :: r => match intsX r with
    | some l => some (i :: l)
    | none => none
  | _ :: _ => none
theorem intsX_eq : ∀ {xs : List PyData} {l : List Int}, intsX xs = some l → xs = l.map PyData.int
  | [], l, h => by cases h; rfl
  | x :: r, l, h => by
    cases x with
    | int i =>
      unfold intsX at h
      split at h
      · rename_i l' q
        cases h
        rw [List.map_cons, ← intsX_eq q]
      · cases h
    | _ => cases h
theorem intsX_vs {K : KW} {I : Hp} : ∀ {l : List Int} {vs : List V}, DpAll K I vs (l.map PyData.int) → vs = l.map V.int
  | [], _, h => by cases h; rfl
  | i :: l, _, h => by
    cases h with
    | cons h1 h2 =>
      cases h1
      rw [intsX_vs h2]
      rfl
section
variable {X : Cx} {s : Stmt} {e e1 : Expr} {es : List Expr} {f : FE} {fa : FA} {a : FS} {K : KW} {i : Nat} {pos : Pos}
theorem xt_sq {st : Stt} {H0 I H : Hp} {σ : L2.St} {ev : Ev} {xs : List PyData} (E : Er K st H0 I H σ ev) (q : xtAt ev i = some xs) : ∃ p vs, σ[i]? = some (some (.ref p)) ∧ SqT K I p vs ∧ DpAll K I vs xs := by
  unfold xtAt at q
  split at q
  · rename_i ys q1
    cases q
    obtain ⟨v, h1, ⟨p, vs, o, ev, h2, h3, h4, h5⟩, _⟩ := E.at_ i _ q1
    subst ev
    exact ⟨p, vs, h1, .inl (.inr ⟨o, h2⟩), h5⟩
  · rename_i q1
    cases q
    obtain ⟨v, h1, h2, _⟩ := E.at_ i _ q1
    have h2 : Dp K I v (.tuple []) := h2
    cases h2 with
    | tup hs ha => exact ⟨_, _, h1, hs, ha⟩
  · cases q
/-- t + (x,) -/
def fXCat (i : Nat) (f : FE) : FE := fun e n => match xtAt e i, f e n with
  | some xs, some (sv, n1) => (match sv.take with
    | some y => if xs.length < big then some (.xt (xs ++ [y]), n1) else none
    | none => none)
  | _, _ => none
theorem e_xcat (h : PE X e (tOp (rCatX X.K) (tVar i) (tTupX (tCons (tE X.kw f) tNil)))) : PE X e (tE X.kw (fXCat i f)) := h.by fun σ H Q ⟨st, n, H0, I, ev, w, E, sv, n', q, k⟩ => by
  unfold fXCat at q
  split at q
  · rename_i xs sv1 n1 q1 q2
    split at q
    · rename_i y hy
      split at q
      · rename_i hl
        cases q
        obtain ⟨p, vs, h1, h2, h3⟩ := xt_sq E q1
        refine ⟨.ref p, h1, st, n, H0, I, ev, w, E, sv1, _, q2, fun v I1 H1 x1 r1 f1 => ?_⟩
        obtain ⟨I2, x2, _, d2⟩ := SvR.keep x1 r1 f1 hy
        refine ⟨by show 1 ≤ sizeLine; decide, fun b o hb oc od => ?_⟩
        have s3 : Same I2 (upd I2 b (.frz o (.tup [v]))) := same_new (x2.w.ine hb)
        have x3 := x2.trans (Xt.lay (o := .frz o (.tup [v])) x2.w hb)
        have S3 : Same I (upd I2 b (.frz o (.tup [v]))) := x2.ii.trans s3
        have T1 : XT X.kw (upd I2 b (.frz o (.tup [v]))) (.ref b) [y] := ⟨b, [v], o, rfl, upd_same, oc, od, .cons (Dp.mono s3 _ _ d2) .nil⟩
        have hv := DpAll.len h3
        refine ⟨p, b, vs, [v], rfl, rfl, ex_sqT x3.w.im.sub (ex_sqT S3 h2), .inl (.inr ⟨o, upd_same⟩), ?_, List.cons_ne_nil _ _, fun hn => ?_, fun hn p2 o2 hp2 oc2 od2 => ?_⟩
        · rw [hv]
          exact Nat.le_trans (Nat.succ_le_of_lt hl) (by decide)
        · subst hn
          cases h3
          exact k _ _ _ x3 T1 trivial
        · have x4 := x3.trans (Xt.lay (o := .frz o2 (.tup (vs ++ [v]))) x3.w hp2)
          have s4 : Same (upd I2 b (.frz o (.tup [v]))) (upd (upd I2 b (.frz o (.tup [v]))) p2 (.frz o2 (.tup (vs ++ [v])))) := same_new (x3.w.ine hp2)
          exact k _ _ _ x4 ⟨p2, _, o2, rfl, upd_same, oc2, od2, DpAll.app (DpAll.mono (S3.trans s4) _ _ h3) (.cons (Dp.mono (s3.trans s4) _ _ d2) .nil)⟩ trivial
      · cases q
    · cases q
  · cases q
/-- [t] -/
def fXOne (i : Nat) : FE := fun e n => match e[i]? with
  | some (some (.xt xs)) => some (.xc [xs], n)
  | _ => none
theorem e_xone (h : PE X e (tLst (tCons (tVar i) tNil))) : PE X e (tE X.kw (fXOne i)) := h.by fun σ H Q ⟨st, n, H0, I, ev, w, E, sv, n', q, k⟩ => by
  unfold fXOne at q
  split at q
  · rename_i xs q1
    cases q
    obtain ⟨v, h1, h2, _⟩ := E.at_ i _ q1
    refine ⟨v, h1, by show 1 ≤ sizeLine; decide, fun p hp => ?_⟩
    exact k _ I _ (Xt.cell w hp) ⟨p, [v], rfl, upd_same, w.ine hp, w.ne_st hp, .cons h2 .nil⟩ (fun q e => by cases e; exact hp)
  · cases q
def fXNew : FE := fun _ n => some (.xc [], n)
theorem e_xnew (h : PE X e (tLst tNil)) : PE X e (tE X.kw fXNew) := h.by fun σ H Q ⟨st, n, H0, I, ev, w, E, sv, n', q, k⟩ => by
  cases q
  refine ⟨by show 0 ≤ sizeLine; decide, fun p hp => ?_⟩
  exact k _ I _ (Xt.cell w hp) ⟨p, [], rfl, upd_same, w.ine hp, w.ne_st hp, .nil⟩ (fun q e => by cases e; exact hp)
/-- as data -/
def fXD (i : Nat) : FE := fun e n => match e[i]? with
  | some (some (.xt xs)) => some (.d (.tuple xs), n)
  | _ => none
theorem e_xd (h : PE X e (tVar i)) : PE X e (tE X.kw (fXD i)) := h.by fun σ H Q ⟨st, n, H0, I, ev, w, E, sv, n', q, k⟩ => by
  unfold fXD at q
  split at q
  · rename_i xs q1
    cases q
    obtain ⟨v, h1, h2, _⟩ := E.at_ i _ q1
    exact ⟨v, h1, k v I H (.refl w) (XT.dp h2) trivial⟩
  · cases q
/-- t.index(k) -/
def fXIx (i : Nat) (f : FE) : FE := fun e n => match e[i]?, f e n with
  | some (some (.xt xs)), some (.d (.int k), n1) => (match intsX xs with
    | some ns => if k ∈ ns then some (.d (.int (ns.idxOf k : Nat)), n1) else none
    | none => none)
  | _, _ => none
theorem e_xix (h : PE X e (tMG tyX (rIdxT X.K) (tVar i) (tCons (tE X.kw f) tNil))) : PE X e (tE X.kw (fXIx i f)) := h.by fun σ H Q ⟨st, n, H0, I, ev, w, E, sv, n', q, k⟩ => by
  unfold fXIx at q
  split at q
  · rename_i xs j n1 q1 q2
    split at q
    · rename_i ns q3
      split at q
      · rename_i hk
        cases q
        obtain ⟨v, h1, ⟨p, vs, o, ev, h2, h3, h4, h5⟩, _⟩ := E.at_ i _ q1
        subst ev
        refine ⟨.ref p, h1, ⟨p, vs, o, rfl, w.im.sub _ _ h2, h3, h4⟩, st, n, H0, I, _, w, E, _, _, q2, fun v I1 H1 x1 r1 _ => ?_⟩
        cases r1
        rw [intsX_eq q3] at h5
        have hv := intsX_vs h5
        refine ⟨p, ns, j, rfl, .inl (.inr ⟨o, ?_⟩), rfl, hk, k _ I1 H1 x1 (.int _) trivial⟩
        rw [← hv]
        exact x1.w.im.sub _ _ (x1.ii _ _ h2)
      · cases q
    · cases q
  · cases q
/-- the list in slot i becomes another one -/
theorem Er.putX {st : Stt} {n : Nat} {I0 H0 I H : Hp} {σ : L2.St} {e : Ev} {xs ys : List (List PyData)} {p : Addr} {us : List V} (x : Xt st n I0 H0 I H) (E : Er K st H0 I H σ e) (q : e[i]? = some (some (.xc xs))) (hp : σ[i]? = some (some (.ref p))) (hd : XTs K I us ys) :
    Xt st n I0 H0 I (upd H p (.lst us)) ∧ Er K st H0 I (upd H p (.lst us)) σ (e.set i (some (.xc ys))) := by
  obtain ⟨v, h1, ⟨p', vs, ev, h2, h3, h4, h5⟩, h6⟩ := E.at_ i _ q
  rw [hp] at h1
  cases h1
  cases ev
  have p0 : H0 p = none := h6 p rfl
  exact ⟨x.put p0 h3 h4, E.change (sv2 := .xc ys) x q rfl hp (Same.refl _) (fun _ _ => rfl) (fun b hb => upd_ne hb) ⟨p, us, rfl, upd_same, h3, h4, hd⟩ h6⟩
def sXExt (i : Nat) (f : FE) : FS := fun e n => match f e n, xcAt e i with
  | some (.xc ys, n1), some xs => if xs.length + ys.length ≤ big then some (.nx, e.set i (some (.xc (xs ++ ys))), n1) else none
  | _, _ => none
theorem s_xext (h : PS X s (tDrop (tBM X.K "list" rExtend (tVar i) (tCons (tE X.kw f) tNil)))) : PS X s (tSs X.kw (sXExt i f)) := h.by fun D σ H ⟨st, n, I0, H0, I, e, x, E, fl, e', n', q, k⟩ => by
  unfold sXExt at q
  split at q
  · rename_i ys n1 xs q1 q3
    split at q
    · rename_i hl
      cases q
      obtain ⟨v, h1, ⟨p, vs, ev, h2, h3, h4, h5⟩, h6⟩ := E.at_ i _ (xcAt_eq q3)
      subst ev
      refine ⟨.ref p, h1, .inl ⟨rfl, _, SqL.of h2⟩, st, n, H0, I, e, x.w, E, _, _, q1, fun w I1 H1 x1 r1 f1 => ?_⟩
      obtain ⟨b, us, e2, g1, g2, g3, g4⟩ := r1
      subst e2
      have hp2 := x1.hh p _ h4 h2
      refine ⟨p, b, vs, us, rfl, rfl, hp2, g1, by rw [h5.len, g4.len]; exact big_le hl, ?_⟩
      obtain ⟨x3, E3⟩ := Er.putX (x.trans x1) (E.mono x1) (xcAt_eq q3) h1 (XTs.app (h5.mono x1.ii) g4)
      exact k σ I1 _ x3 E3 x1.ii
    · cases q
  · cases q
def sXRet (i : Nat) : FS := fun e n => match e[i]? with
  | some (some (.xc xs)) => some (.rt (.xc xs), e, n)
  | _ => none
theorem s_xret (h : PS X s (tRet (tVar i))) : PS X s (tSs X.kw (sXRet i)) := h.by fun D σ H ⟨st, n, I0, H0, I, e, x, E, fl, e', n', q, k⟩ => by
  unfold sXRet at q
  split at q
  · rename_i y q1
    cases q
    obtain ⟨v, h1, h2, h3⟩ := E.at_ i _ q1
    exact ⟨v, h1, k v I H x h2 h3⟩
  · cases q
/-! for t in xs -/
def forXL (i : Nat) (wp : List Nat) (body : FS) : List (List PyData) → Ev → Nat → Option (Fl × Ev × Nat)
  | [], e, n => some (.nx, e, n)
  | x :: xs, e, n => match body (e.set i (some (.xt x))) n with
    | none => none
    | some (.nx, e2, n2) => forXL i wp body xs (wipeE e2 wp) n2
    | some (.ct, e2, n2) => forXL i wp body xs (wipeE e2 wp) n2
    | some (.bk, e2, n2) => some (.nx, wipeE e2 wp, n2)
    | some (.rt v, e2, n2) => some (.rt v, e2, n2)
def sForX (i : Nat) (wp : List Nat) (f : FE) (body : FS) : FS := fun e n => match f e n with
  | some (.xc xss, n1) => if xss.length ≤ big then forXL i wp body xss e n1 else none
  | _ => none
theorem s_forX {wp : List Nat} (h : PS X s (tFor (iSeq X.kw (tE X.kw f)) (gName i) (tSs X.kw a))) : PS X s (tSs X.kw (sForX i wp f a)) := h.by fun D σ H ⟨st, n, I0, H0, I, e, x, E, fl, e', n', q, k⟩ => by
  unfold sForX at q
  split at q
  · rename_i xss n1 q1
    split at q
    · rename_i hl
      refine .inl ⟨st, n, H0, I, e, x.w, E, _, n1, q1, fun v I1 H1 x1 r1 f1 => ?_⟩
      obtain ⟨p, vs, ev, h1, h2, h3, h4⟩ := r1
      subst ev
      have s2 : Same I1 (upd I1 p (.lst vs)) := same_new h2
      have x2 := x1.freeze (f1 p rfl) h3 h1
      have hs : SqL X.kw (upd I1 p (.lst vs)) p vs := SqL.of upd_same
      have hT := h4.mono s2
      have ln := h4.len
      refine ⟨p, rfl, ⟨vs, SqL.of h1⟩, ?_⟩
      refine for_it (walk_list (K := X.kw.K) (a := p) (xs := vs)) (fun j σ H => ∃ I' m ev, Xt st m I0 H0 I' H ∧ Er X.kw st H0 I' H σ ev ∧ Same (upd I1 p (.lst vs)) I' ∧ forXL i wp a (xss.drop j) ev m = some (fl, e', n'))
        ⟨_, n1, e, x.trans x2, E.mono x2, Same.refl _, q⟩ ?_ ?_ ?_
      · rintro j σ' H' _ ⟨I', m, ev, x3, E3, s3, _⟩
        exact x3.w.im.sub.seq (s3.seq hs)
      · rintro j y σ' H' H'' hj ⟨I', m, ev, x3, E3, s3, q3⟩ ⟨rfl, hy⟩
        obtain ⟨d, e1, kd⟩ := XTs.get hT hy
        rw [ln] at hj
        have hdr : xss.drop j = d :: xss.drop (j + 1) := by
          rw [List.drop_eq_getElem_cons hj]
          congr 1
          rw [List.getElem?_eq_getElem hj] at e1
          exact Option.some.inj e1
        rw [hdr] at q3
        unfold forXL at q3
        have E4 := E3.set i (sv := .xt d) (v := y) (kd.mono s3) trivial (fun _ _ _ z => nomatch z)
        show tSs X.kw a _ (σ'.set i (some y)) H''
        split at q3
        · cases q3
        · rename_i ev2 m2 p2
          exact ⟨st, m, I0, H0, I', _, x3, E4, .nx, ev2, m2, p2, fun σ5 I5 H5 x5 E5 s5 => ⟨I5, m2, _, x5, E5.wipeE wp, s3.trans s5, q3⟩⟩
        · rename_i ev2 m2 p2
          exact ⟨st, m, I0, H0, I', _, x3, E4, .ct, ev2, m2, p2, fun σ5 I5 H5 x5 E5 s5 => ⟨I5, m2, _, x5, E5.wipeE wp, s3.trans s5, q3⟩⟩
        · rename_i ev2 m2 p2
          cases q3
          exact ⟨st, m, I0, H0, I', _, x3, E4, .bk, ev2, _, p2, fun σ5 I5 H5 x5 E5 s5 => k σ5 I5 H5 x5 (E5.wipeE wp) ((x2.ii.trans s3).trans s5)⟩
        · rename_i v ev2 m2 p2
          cases q3
          exact ⟨st, m, I0, H0, I', _, x3, E4, .rt v, _, _, p2, fun w I5 H5 x5 r5 f5 => k w I5 H5 x5 r5 f5⟩
      · rintro σ' H' ⟨I', m, ev, x3, E3, s3, q3⟩
        rw [ln, List.drop_length] at q3
        unfold forXL at q3
        cases q3
        exact k σ' I' H' x3 E3 (x2.ii.trans s3)
    · cases q
  · cases q
end
end Sb
namespace Sb
open PySem PySem.Spec PyProof.Rows L2
def mREADINGS : List (Str × Int) := [("join", 2), ("sort", 1), ("turn", 1), ("first", 1), ("rest", 1), ("less", 2), ("same", 2), ("pick", 3)]
def topS (i : Nat) : Stmt := PySem.Challenge.pw_samebuilds_k43_whole_orders.main.body.getD i (.Pass ⟨0, 0, 0, 0⟩)
abbrev s_is_number : Stmt := topS 11
theorem sc_is_number : FnScope ["value", "least", "most"] ["value", "least", "most"] (defScope s_is_number) := ⟨rfl, rfl, rfl, by decide +kernel, rfl, by decide +kernel, by decide +kernel⟩
abbrev s_is_tuple : Stmt := topS 12
theorem sc_is_tuple : FnScope ["value", "least", "most"] ["value", "least", "most"] (defScope s_is_tuple) := ⟨rfl, rfl, rfl, by decide +kernel, rfl, by decide +kernel, by decide +kernel⟩
abbrev s_is_text : Stmt := topS 13
theorem sc_is_text : FnScope ["value", "longest", "letter"] ["value", "longest"] (defScope s_is_text) := ⟨rfl, rfl, rfl, by decide +kernel, rfl, by decide +kernel, by decide +kernel⟩
abbrev s_is_ascending : Stmt := topS 14
theorem sc_is_ascending : FnScope ["values", "at"] ["values"] (defScope s_is_ascending) := ⟨rfl, rfl, rfl, by decide +kernel, rfl, by decide +kernel, by decide +kernel⟩
abbrev s_is_thing : Stmt := topS 15
theorem sc_is_thing : FnScope ["value", "text"] ["value"] (defScope s_is_thing) := ⟨rfl, rfl, rfl, by decide +kernel, rfl, by decide +kernel, by decide +kernel⟩
abbrev s_are_things : Stmt := topS 16
theorem sc_are_things : FnScope ["value", "many", "thing"] ["value"] (defScope s_are_things) := ⟨rfl, rfl, rfl, by decide +kernel, rfl, by decide +kernel, by decide +kernel⟩
abbrev s_is_reading : Stmt := topS 17
theorem sc_is_reading : FnScope ["value", "many_things", "step", "word", "number"] ["value", "many_things", "step"] (defScope s_is_reading) := ⟨rfl, rfl, rfl, by decide +kernel, rfl, by decide +kernel, by decide +kernel⟩
abbrev s_is_step : Stmt := topS 18
theorem sc_is_step : FnScope ["value", "many_things", "step", "operation", "reads", "reading"] ["value", "many_things", "step"] (defScope s_is_step) := ⟨rfl, rfl, rfl, by decide +kernel, rfl, by decide +kernel, by decide +kernel⟩
abbrev s_are_steps : Stmt := topS 19
theorem sc_are_steps : FnScope ["value", "many_things", "at"] ["value", "many_things"] (defScope s_are_steps) := ⟨rfl, rfl, rfl, by decide +kernel, rfl, by decide +kernel, by decide +kernel⟩
abbrev s_is_made : Stmt := topS 20
theorem sc_is_made : FnScope ["value", "many_steps", "number"] ["value", "many_steps"] (defScope s_is_made) := ⟨rfl, rfl, rfl, by decide +kernel, rfl, by decide +kernel, by decide +kernel⟩
abbrev s_is_recipe : Stmt := topS 21
theorem sc_is_recipe : FnScope ["value", "things", "steps", "made"] ["value"] (defScope s_is_recipe) := ⟨rfl, rfl, rfl, by decide +kernel, rfl, by decide +kernel, by decide +kernel⟩
abbrev s_check_recipe : Stmt := topS 22
theorem sc_check_recipe : FnScope ["value"] ["value"] (defScope s_check_recipe) := ⟨rfl, rfl, rfl, by decide +kernel, rfl, by decide +kernel, by decide +kernel⟩
abbrev s_steps_read : Stmt := topS 24
theorem sc_steps_read : FnScope ["recipe", "found", "_", "reads", "word", "number"] ["recipe"] (defScope s_steps_read) := ⟨rfl, rfl, rfl, by decide +kernel, rfl, by decide +kernel, by decide +kernel⟩
abbrev s_is_order_of : Stmt := topS 25
theorem sc_is_order_of : FnScope ["recipe", "value", "read", "made", "step", "number"] ["recipe", "value"] (defScope s_is_order_of) := ⟨rfl, rfl, rfl, by decide +kernel, rfl, by decide +kernel, by decide +kernel⟩
abbrev s_is_order : Stmt := topS 26
theorem sc_is_order : FnScope ["recipe", "value", "many", "step"] ["recipe", "value"] (defScope s_is_order) := ⟨rfl, rfl, rfl, by decide +kernel, rfl, by decide +kernel, by decide +kernel⟩
abbrev s_free_steps : Stmt := topS 27
theorem sc_free_steps : FnScope ["read", "done", "found", "step", "numbers", "number"] ["read", "done"] (defScope s_free_steps) := ⟨rfl, rfl, rfl, by decide +kernel, rfl, by decide +kernel, by decide +kernel⟩
abbrev s_count_orders : Stmt := topS 28
theorem sc_count_orders : FnScope ["recipe", "read", "counts", "_", "longer", "done", "many", "step", "behind"] ["recipe"] (defScope s_count_orders) := ⟨rfl, rfl, rfl, by decide +kernel, rfl, by decide +kernel, by decide +kernel⟩
abbrev s_same_truth : Stmt := topS 30
theorem sc_same_truth : FnScope ["_law_got", "_law_due"] ["_law_got", "_law_due"] (defScope s_same_truth) := ⟨rfl, rfl, rfl, by decide +kernel, rfl, by decide +kernel, by decide +kernel⟩
abbrev s_cell_at : Stmt := topS 31
theorem sc_cell_at : FnScope ["_law_script", "_law_k", "_law_spare", "_law_again"] ["_law_script", "_law_k"] (defScope s_cell_at) := ⟨rfl, rfl, rfl, by decide +kernel, rfl, by decide +kernel, by decide +kernel⟩
abbrev s_mixed : Stmt := topS 32
theorem sc_mixed : FnScope ["_law_script", "_law_k", "_law_many", "_law_spun"] ["_law_script", "_law_k", "_law_many"] (defScope s_mixed) := ⟨rfl, rfl, rfl, by decide +kernel, rfl, by decide +kernel, by decide +kernel⟩
abbrev s_draw : Stmt := topS 33
theorem sc_draw : FnScope ["_law_script", "_law_state", "_law_many"] ["_law_script", "_law_state", "_law_many"] (defScope s_draw) := ⟨rfl, rfl, rfl, by decide +kernel, rfl, by decide +kernel, by decide +kernel⟩
abbrev s_some_of : Stmt := topS 34
theorem sc_some_of : FnScope ["_law_script", "_law_state", "_law_some", "_law_count", "_law_left", "_law_found"] ["_law_script", "_law_state", "_law_some", "_law_count"] (defScope s_some_of) := ⟨rfl, rfl, rfl, by decide +kernel, rfl, by decide +kernel, by decide +kernel⟩
abbrev s_pick : Stmt := topS 35
theorem sc_pick : FnScope ["_law_script", "_law_state", "_law_some"] ["_law_script", "_law_state", "_law_some"] (defScope s_pick) := ⟨rfl, rfl, rfl, by decide +kernel, rfl, by decide +kernel, by decide +kernel⟩
abbrev s_some_thing : Stmt := topS 36
theorem sc_some_thing : FnScope ["_law_script", "_law_state", "_law_some"] ["_law_script", "_law_state"] (defScope s_some_thing) := ⟨rfl, rfl, rfl, by decide +kernel, rfl, by decide +kernel, by decide +kernel⟩
abbrev s_some_step : Stmt := topS 37
theorem sc_some_step : FnScope ["_law_script", "_law_state", "_law_things", "_law_count", "_law_names", "_law_name", "_law_reads", "_law_again"] ["_law_script", "_law_state", "_law_things", "_law_count"] (defScope s_some_step) := ⟨rfl, rfl, rfl, by decide +kernel, rfl, by decide +kernel, by decide +kernel⟩
abbrev s_some_recipe : Stmt := topS 38
theorem sc_some_recipe : FnScope ["_law_script", "_law_state", "_law_again", "_law_things", "_law_steps", "_law_made"] ["_law_script", "_law_state"] (defScope s_some_recipe) := ⟨rfl, rfl, rfl, by decide +kernel, rfl, by decide +kernel, by decide +kernel⟩
abbrev s_rows : Stmt := topS 39
theorem sc_rows : FnScope ["_law_left", "_law_row", "_law_found", "_law_at"] ["_law_left", "_law_row"] (defScope s_rows) := ⟨rfl, rfl, rfl, by decide +kernel, rfl, by decide +kernel, by decide +kernel⟩
abbrev s_law : Stmt := topS 40
theorem sc_law : FnScope ["_law_script", "_law_state", "_law_recipe", "_law_steps", "_law_good", "_law_row", "_law_due", "_law_number", "_law_step", "_law_kind", "_law_one", "_law_plain", "_law_bad"] ["_law_script"] (defScope s_law) := ⟨rfl, rfl, rfl, by decide +kernel, rfl, by decide +kernel, by decide +kernel⟩
/-- what the top has written -/
structure Tx0 (K : PySem.W.Frag) (mg : Str → Option Value) (w : World) where
  f_is_number : Addr
  d_is_number : FuncData
  F_is_number : Fun K "is_number" "is_number" s_is_number f_is_number d_is_number
  g_is_number : mg "is_number" = some (.ref f_is_number)
  b_is_number : Binds K d_is_number ["value", "least", "most"] []
  f_is_tuple : Addr
  d_is_tuple : FuncData
  F_is_tuple : Fun K "is_tuple" "is_tuple" s_is_tuple f_is_tuple d_is_tuple
  g_is_tuple : mg "is_tuple" = some (.ref f_is_tuple)
  b_is_tuple : Binds K d_is_tuple ["value", "least", "most"] []
  f_is_text : Addr
  d_is_text : FuncData
  F_is_text : Fun K "is_text" "is_text" s_is_text f_is_text d_is_text
  g_is_text : mg "is_text" = some (.ref f_is_text)
  b_is_text : Binds K d_is_text ["value", "longest"] []
  f_is_ascending : Addr
  d_is_ascending : FuncData
  F_is_ascending : Fun K "is_ascending" "is_ascending" s_is_ascending f_is_ascending d_is_ascending
  g_is_ascending : mg "is_ascending" = some (.ref f_is_ascending)
  b_is_ascending : Binds K d_is_ascending ["values"] []
  f_is_thing : Addr
  d_is_thing : FuncData
  F_is_thing : Fun K "is_thing" "is_thing" s_is_thing f_is_thing d_is_thing
  g_is_thing : mg "is_thing" = some (.ref f_is_thing)
  b_is_thing : Binds K d_is_thing ["value"] []
  f_are_things : Addr
  d_are_things : FuncData
  F_are_things : Fun K "are_things" "are_things" s_are_things f_are_things d_are_things
  g_are_things : mg "are_things" = some (.ref f_are_things)
  b_are_things : Binds K d_are_things ["value"] []
  f_is_reading : Addr
  d_is_reading : FuncData
  F_is_reading : Fun K "is_reading" "is_reading" s_is_reading f_is_reading d_is_reading
  g_is_reading : mg "is_reading" = some (.ref f_is_reading)
  b_is_reading : Binds K d_is_reading ["value", "many_things", "step"] []
  f_is_step : Addr
  d_is_step : FuncData
  F_is_step : Fun K "is_step" "is_step" s_is_step f_is_step d_is_step
  g_is_step : mg "is_step" = some (.ref f_is_step)
  b_is_step : Binds K d_is_step ["value", "many_things", "step"] []
  f_are_steps : Addr
  d_are_steps : FuncData
  F_are_steps : Fun K "are_steps" "are_steps" s_are_steps f_are_steps d_are_steps
  g_are_steps : mg "are_steps" = some (.ref f_are_steps)
  b_are_steps : Binds K d_are_steps ["value", "many_things"] []
  f_is_made : Addr
  d_is_made : FuncData
  F_is_made : Fun K "is_made" "is_made" s_is_made f_is_made d_is_made
  g_is_made : mg "is_made" = some (.ref f_is_made)
  b_is_made : Binds K d_is_made ["value", "many_steps"] []
  f_is_recipe : Addr
  d_is_recipe : FuncData
  F_is_recipe : Fun K "is_recipe" "is_recipe" s_is_recipe f_is_recipe d_is_recipe
  g_is_recipe : mg "is_recipe" = some (.ref f_is_recipe)
  b_is_recipe : Binds K d_is_recipe ["value"] []
  f_check_recipe : Addr
  d_check_recipe : FuncData
  F_check_recipe : Fun K "check_recipe" "check_recipe" s_check_recipe f_check_recipe d_check_recipe
  g_check_recipe : mg "check_recipe" = some (.ref f_check_recipe)
  b_check_recipe : Binds K d_check_recipe ["value"] []
structure Tx1 (K : PySem.W.Frag) (mg : Str → Option Value) (w : World) extends Tx0 K mg w where
  f_steps_read : Addr
  d_steps_read : FuncData
  F_steps_read : Fun K "steps_read" "steps_read" s_steps_read f_steps_read d_steps_read
  g_steps_read : mg "steps_read" = some (.ref f_steps_read)
  b_steps_read : Binds K d_steps_read ["recipe"] []
  f_is_order_of : Addr
  d_is_order_of : FuncData
  F_is_order_of : Fun K "is_order_of" "is_order_of" s_is_order_of f_is_order_of d_is_order_of
  g_is_order_of : mg "is_order_of" = some (.ref f_is_order_of)
  b_is_order_of : Binds K d_is_order_of ["recipe", "value"] []
  f_is_order : Addr
  d_is_order : FuncData
  F_is_order : Fun K "is_order" "is_order" s_is_order f_is_order d_is_order
  g_is_order : mg "is_order" = some (.ref f_is_order)
  b_is_order : Binds K d_is_order ["recipe", "value"] []
  f_free_steps : Addr
  d_free_steps : FuncData
  F_free_steps : Fun K "free_steps" "free_steps" s_free_steps f_free_steps d_free_steps
  g_free_steps : mg "free_steps" = some (.ref f_free_steps)
  b_free_steps : Binds K d_free_steps ["read", "done"] []
  f_count_orders : Addr
  d_count_orders : FuncData
  F_count_orders : Fun K "count_orders" "count_orders" s_count_orders f_count_orders d_count_orders
  g_count_orders : mg "count_orders" = some (.ref f_count_orders)
  b_count_orders : Binds K d_count_orders ["recipe"] []
  f__law_same_truth : Addr
  d__law_same_truth : FuncData
  F__law_same_truth : Fun K "_law_same_truth" "_law_same_truth" s_same_truth f__law_same_truth d__law_same_truth
  g__law_same_truth : mg "_law_same_truth" = some (.ref f__law_same_truth)
  b__law_same_truth : Binds K d__law_same_truth ["_law_got", "_law_due"] []
  f__law_cell_at : Addr
  d__law_cell_at : FuncData
  F__law_cell_at : Fun K "_law_cell_at" "_law_cell_at" s_cell_at f__law_cell_at d__law_cell_at
  g__law_cell_at : mg "_law_cell_at" = some (.ref f__law_cell_at)
  b__law_cell_at : Binds K d__law_cell_at ["_law_script", "_law_k"] []
  f__law_mixed : Addr
  d__law_mixed : FuncData
  F__law_mixed : Fun K "_law_mixed" "_law_mixed" s_mixed f__law_mixed d__law_mixed
  g__law_mixed : mg "_law_mixed" = some (.ref f__law_mixed)
  b__law_mixed : Binds K d__law_mixed ["_law_script", "_law_k", "_law_many"] []
  f__law_draw : Addr
  d__law_draw : FuncData
  F__law_draw : Fun K "_law_draw" "_law_draw" s_draw f__law_draw d__law_draw
  g__law_draw : mg "_law_draw" = some (.ref f__law_draw)
  b__law_draw : Binds K d__law_draw ["_law_script", "_law_state", "_law_many"] []
  f__law_some_of : Addr
  d__law_some_of : FuncData
  F__law_some_of : Fun K "_law_some_of" "_law_some_of" s_some_of f__law_some_of d__law_some_of
  g__law_some_of : mg "_law_some_of" = some (.ref f__law_some_of)
  b__law_some_of : Binds K d__law_some_of ["_law_script", "_law_state", "_law_some", "_law_count"] []
  f__law_pick : Addr
  d__law_pick : FuncData
  F__law_pick : Fun K "_law_pick" "_law_pick" s_pick f__law_pick d__law_pick
  g__law_pick : mg "_law_pick" = some (.ref f__law_pick)
  b__law_pick : Binds K d__law_pick ["_law_script", "_law_state", "_law_some"] []
  f__law_some_thing : Addr
  d__law_some_thing : FuncData
  F__law_some_thing : Fun K "_law_some_thing" "_law_some_thing" s_some_thing f__law_some_thing d__law_some_thing
  g__law_some_thing : mg "_law_some_thing" = some (.ref f__law_some_thing)
  b__law_some_thing : Binds K d__law_some_thing ["_law_script", "_law_state"] []
structure Tx (K : PySem.W.Frag) (mg : Str → Option Value) (w : World) extends Tx1 K mg w where
  f__law_some_step : Addr
  d__law_some_step : FuncData
  F__law_some_step : Fun K "_law_some_step" "_law_some_step" s_some_step f__law_some_step d__law_some_step
  g__law_some_step : mg "_law_some_step" = some (.ref f__law_some_step)
  b__law_some_step : Binds K d__law_some_step ["_law_script", "_law_state", "_law_things", "_law_count"] []
  f__law_some_recipe : Addr
  d__law_some_recipe : FuncData
  F__law_some_recipe : Fun K "_law_some_recipe" "_law_some_recipe" s_some_recipe f__law_some_recipe d__law_some_recipe
  g__law_some_recipe : mg "_law_some_recipe" = some (.ref f__law_some_recipe)
  b__law_some_recipe : Binds K d__law_some_recipe ["_law_script", "_law_state"] []
  f__law_rows : Addr
  d__law_rows : FuncData
  F__law_rows : Fun K "_law_rows" "_law_rows" s_rows f__law_rows d__law_rows
  g__law_rows : mg "_law_rows" = some (.ref f__law_rows)
  b__law_rows : Binds K d__law_rows ["_law_left", "_law_row"] []
  f_law : Addr
  d_law : FuncData
  F_law : Fun K "law" "law" s_law f_law d_law
  g_law : mg "law" = some (.ref f_law)
  b_law : Binds K d_law ["_law_script"] []
  k_MOST_THINGS : Tok
  g_MOST_THINGS : mg "MOST_THINGS" = some (.int 5 k_MOST_THINGS)
  k_MOST_TEXTS : Tok
  g_MOST_TEXTS : mg "MOST_TEXTS" = some (.int 4 k_MOST_TEXTS)
  k_LONGEST_TEXT : Tok
  g_LONGEST_TEXT : mg "LONGEST_TEXT" = some (.int 4 k_LONGEST_TEXT)
  k_MOST_WORLDS : Tok
  g_MOST_WORLDS : mg "MOST_WORLDS" = some (.int 256 k_MOST_WORLDS)
  k_MOST_STEPS : Tok
  g_MOST_STEPS : mg "MOST_STEPS" = some (.int 8 k_MOST_STEPS)
  k_MOST_MADE : Tok
  g_MOST_MADE : mg "MOST_MADE" = some (.int 3 k_MOST_MADE)
  a_READINGS : Addr
  g_READINGS : mg "READINGS" = some (.ref a_READINGS)
  m_READINGS : KDm K w a_READINGS mREADINGS
  z_len : mg "len" = none
  z_int : mg "int" = none
  z_str : mg "str" = none
  z_bool : mg "bool" = none
  z_tuple : mg "tuple" = none
  z_list : mg "list" = none
  z_isinstance : mg "isinstance" = none
  z_range : mg "range" = none
  z_min : mg "min" = none
  z_any : mg "any" = none
  z_sorted : mg "sorted" = none
  z_set : mg "set" = none
  z_enumerate : mg "enumerate" = none
  z_sum : mg "sum" = none
def fuel : Nat := 100000
def b_is_number : FS :=
    (sRet (fAnd (fIsi isInt (fVar 0)) (fAnd (fNot (fIsi isBool (fVar 0))) (fChain (seeB (ordD .LtE)) (seeB (ordD .LtE)) (fVar 1) (fVar 0) (fVar 2)))))
def F_is_number : FF := runF 3 3 b_is_number
section
variable {P : Program} {w : World} {K : PySem.W.Frag} {mg : Str → Option Value} {base : Heap}
theorem ok_is_number (T : Tx K mg w) : FnOk P w K mg base CX0 1 T.f_is_number T.d_is_number ["value", "least", "most"] (spF ⟨K, P, w⟩ 3 F_is_number) := by
  have h : FnOk P w K mg base CX0 1 T.f_is_number T.d_is_number ["value", "least", "most"] (spF ⟨K, P, w⟩ [("value" : Str), ("least" : Str), ("most" : Str)].length (runF [("value" : Str), ("least" : Str), ("most" : Str)].length [("value" : Str), ("least" : Str), ("most" : Str)].length b_is_number)) := fn_pi (body := b_is_number) T.F_is_number sc_is_number fun cdv A outer s H E hr =>
    (b_one (s_retE (ps_ret (e_and (e_isi (T := "int") (kit_int _) (by rfl) T.z_isinstance (pa_cons (e_var (pv 0)) (pa_cons (pe_bltn (v := .ty "int") (by rfl) T.z_int (by decide +kernel) rfl) pa_nil))) (e_and (e_not (e_isi (T := "bool") (kit_bool _) (by rfl) T.z_isinstance (pa_cons (e_var (pv 0)) (pa_cons (pe_bltn (v := .ty "bool") (by rfl) T.z_bool (by decide +kernel) rfl) pa_nil)))) (pe_one (e_chain (op_ord (.inr (.inr (.inl rfl))) hr.units) (RDs.do rd_ord) (op_ord (.inr (.inr (.inl rfl))) hr.units) (RDs.do rd_ord) (e_var (pv 1)) (e_var (pv 0)) (e_var (pv 2)))))))))
  exact h
end
def b_is_tuple : FS :=
    (sRet (fAnd (fIsi isTup (fVar 0)) (fChain (seeB (ordD .LtE)) (seeB (ordD .LtE)) (fVar 1) (lenS (faCons (fVar 0) faNil)) (fVar 2))))
def F_is_tuple : FF := runF 3 3 b_is_tuple
section
variable {P : Program} {w : World} {K : PySem.W.Frag} {mg : Str → Option Value} {base : Heap}
theorem ok_is_tuple (T : Tx K mg w) : FnOk P w K mg base CX0 1 T.f_is_tuple T.d_is_tuple ["value", "least", "most"] (spF ⟨K, P, w⟩ 3 F_is_tuple) := by
  have h : FnOk P w K mg base CX0 1 T.f_is_tuple T.d_is_tuple ["value", "least", "most"] (spF ⟨K, P, w⟩ [("value" : Str), ("least" : Str), ("most" : Str)].length (runF [("value" : Str), ("least" : Str), ("most" : Str)].length [("value" : Str), ("least" : Str), ("most" : Str)].length b_is_tuple)) := fn_pi (body := b_is_tuple) T.F_is_tuple sc_is_tuple fun cdv A outer s H E hr =>
    (b_one (s_retE (ps_ret (e_and (e_isi (T := "tuple") (kit_tup _) (by rfl) T.z_isinstance (pa_cons (e_var (pv 0)) (pa_cons (pe_bltn (v := .ty "tuple") (by rfl) T.z_tuple (by decide +kernel) rfl) pa_nil))) (pe_one (e_chain (op_ord (.inr (.inr (.inl rfl))) hr.units) (RDs.do rd_ord) (op_ord (.inr (.inr (.inl rfl))) hr.units) (RDs.do rd_ord) (e_var (pv 1)) (e_len (pe_callB call_lenA (by rfl) T.z_len PySem.boot_len (a_cons (e_var (pv 0)) a_nil))) (e_var (pv 2))))))))
  exact h
end
def b_is_text : FS :=
    (sSeq (sIf (tOrF (tNotF (bT (fIsi isStr (fVar 0)))) (bT (fOp2 (seeB (ordD .Gt)) (lenS (faCons (fVar 0) faNil)) (fVar 1))))
    (sRet (fC (.bool false)))
    sNx)
    (sSeq (sFor (itTake (fVar 0)) (tgN 2) [2]
    (sIf (tOrF (bT (fOp2 (seeB (ordD .Lt)) (fVar 2) (fC (.str "a")))) (bT (fOp2 (seeB (ordD .Gt)) (fVar 2) (fC (.str "z")))))
    (sRet (fC (.bool false)))
    sNx))
    (sRet (fC (.bool true)))))
def F_is_text : FF := runF 3 2 b_is_text
section
variable {P : Program} {w : World} {K : PySem.W.Frag} {mg : Str → Option Value} {base : Heap}
theorem ok_is_text (T : Tx K mg w) : FnOk P w K mg base CX0 1 T.f_is_text T.d_is_text ["value", "longest"] (spF ⟨K, P, w⟩ 2 F_is_text) := by
  have h : FnOk P w K mg base CX0 1 T.f_is_text T.d_is_text ["value", "longest"] (spF ⟨K, P, w⟩ [("value" : Str), ("longest" : Str)].length (runF [("value" : Str), ("longest" : Str), ("letter" : Str)].length [("value" : Str), ("longest" : Str)].length b_is_text)) := fn_pi (body := b_is_text) T.F_is_text sc_is_text fun cdv A outer s H E hr =>
    (b_cons (s_ite (PW.pt (w_or (t_not (t_val (e_isi (T := "str") (kit_str _) (by rfl) T.z_isinstance (pa_cons (e_var (pv 0)) (pa_cons (pe_bltn (v := .ty "str") (by rfl) T.z_str (by decide +kernel) rfl) pa_nil))))) (pw_or1 (t_cmp (op_ord (.inr (.inl rfl)) hr.units) (RDs.do rd_ord) (e_len (pe_callB call_lenA (by rfl) T.z_len PySem.boot_len (a_cons (e_var (pv 0)) a_nil))) (e_var (pv 1)) (nomark _)))))
    (b_one (s_retE (ps_ret e_bl)))
    b_nil)
    (b_cons (s_for (wp := [2]) (gd_name (i := 2)) (ps_for PassesOwn.never rfl (i_for (e_var (pv 0))) (pg_name (i := 2) sc_is_text.nd rfl (Or.inl rfl))
    (b_one (s_ite (PW.pt (w_or (t_cmp (op_ord (.inl rfl) hr.units) (RDs.do rd_ord) (e_var (pv 2)) e_str (nomark _)) (pw_or1 (t_cmp (op_ord (.inr (.inl rfl)) hr.units) (RDs.do rd_ord) (e_var (pv 2)) e_str (nomark _)))))
    (b_one (s_retE (ps_ret e_bl)))
    b_nil))))
    (b_one (s_retE (ps_ret e_bl)))))
  exact h
end
def b_is_ascending : FS :=
    (sSeq (sFor (itRng2 (faCons (fC (.int 1)) (faCons (lenS (faCons (fVar 0) faNil)) faNil))) (tgN 1) [1]
    (sIf (bT (fOp2 (seeB (ordD .GtE)) (fOp2 (seeB ixD) (fVar 0) (fOp2 (seeB subD) (fVar 1) (fC (.int 1)))) (fOp2 (seeB ixD) (fVar 0) (fVar 1))))
    (sRet (fC (.bool false)))
    sNx))
    (sRet (fC (.bool true))))
def F_is_ascending : FF := runF 2 1 b_is_ascending
section
variable {P : Program} {w : World} {K : PySem.W.Frag} {mg : Str → Option Value} {base : Heap}
theorem ok_is_ascending (T : Tx K mg w) : FnOk P w K mg base CX0 1 T.f_is_ascending T.d_is_ascending ["values"] (spF ⟨K, P, w⟩ 1 F_is_ascending) := by
  have h : FnOk P w K mg base CX0 1 T.f_is_ascending T.d_is_ascending ["values"] (spF ⟨K, P, w⟩ [("values" : Str)].length (runF [("values" : Str), ("at" : Str)].length [("values" : Str)].length b_is_ascending)) := fn_pi (body := b_is_ascending) T.F_is_ascending sc_is_ascending fun cdv A outer s H E hr =>
    (b_cons (s_for (wp := [1]) (gd_name (i := 1)) (ps_for PassesOwn.never rfl (i_rng2 (pi_range2 (by rfl) T.z_range (a_cons e_int (a_cons (e_len (pe_callB call_lenA (by rfl) T.z_len PySem.boot_len (a_cons (e_var (pv 0)) a_nil))) a_nil)))) (pg_name (i := 1) sc_is_ascending.nd rfl (Or.inl rfl))
    (b_one (s_ite (t_cmp (op_ord (.inr (.inr (.inr rfl))) hr.units) (RDs.do rd_ord) (e_ix ix_seq (RDs.do rd_ixD) (e_var (pv 0)) (e_op op_sub (RDs.do rd_subD) (e_var (pv 1)) e_int) (fun _ _ => rfl)) (e_ix ix_seq (RDs.do rd_ixD) (e_var (pv 0)) (e_var (pv 1)) (fun _ _ => rfl)) (nomark _))
    (b_one (s_retE (ps_ret e_bl)))
    b_nil))))
    (b_one (s_retE (ps_ret e_bl))))
  exact h
end
def b_steps_read : FS :=
    (sSeq (sAsg 1 (fLst faNil))
    (sSeq (sFor (itTake (fOp2 (seeB ixD) (fVar 0) (fC (.int 1)))) (tgT [(tgN 2), (tgN 3)]) [2, 3]
    (sApp 1 (fLc (itSee (fVar 3)) (tgT [(tgN 4), (tgN 5)]) [4, 5] (bT (fOp2 (seeB (eqD false)) (fVar 4) (fC (.str "step")))) (fVar 5))))
    (sRetV 1)))
def F_steps_read : FF := runF 6 1 b_steps_read
section
variable {P : Program} {w : World} {K : PySem.W.Frag} {mg : Str → Option Value} {base : Heap}
theorem ok_steps_read (T : Tx K mg w) : FnOk P w K mg base CX0 1 T.f_steps_read T.d_steps_read ["recipe"] (spF ⟨K, P, w⟩ 1 F_steps_read) := by
  have h : FnOk P w K mg base CX0 1 T.f_steps_read T.d_steps_read ["recipe"] (spF ⟨K, P, w⟩ [("recipe" : Str)].length (runF [("recipe" : Str), ("found" : Str), ("_" : Str), ("reads" : Str), ("word" : Str), ("number" : Str)].length [("recipe" : Str)].length b_steps_read)) := fn_pi (body := b_steps_read) T.F_steps_read sc_steps_read fun cdv A outer s H E hr =>
    (b_cons (s_set (ps_set (i := 1) sc_steps_read.nd rfl (Or.inl rfl) (e_lst a_nil)))
    (b_cons (s_for (wp := [2, 3]) (gd_tup (gds_cons (gd_name (i := 2)) (gds_cons (gd_name (i := 3)) gds_nil)) rfl) (ps_for PassesOwn.never rfl (i_for (e_ix ix_seq (RDs.do rd_ixD) (e_var (pv 0)) e_int (fun _ _ => rfl))) (pg_tup rfl (pgs_cons (pg_name (i := 2) sc_steps_read.nd rfl (Or.inl rfl)) (pgs_cons (pg_name (i := 3) sc_steps_read.nd rfl (Or.inl rfl)) pgs_nil)))
    (b_one (s_app (ps_expr (pe_bm PySem.F.plainAttrs_list PySem.F.slot_list_append PySem.F.type_list_append mt_append (pv 1) (pa_cons (e_lc (gd_tup (gds_cons (gd_name (i := 4)) (gds_cons (gd_name (i := 5)) gds_nil)) rfl) (by decide) (pe_lc (own := [("word", 4), ("number", 5)]) rfl sc_steps_read.nd (i_lc (e_var (pv 3))) (blkOk_by (own := [("word", 4), ("number", 5)]) (N := ["recipe", "found", "_", "reads", "word", "number"]) (sc := defScope s_steps_read) (by decide +kernel)) (fun _ _ _ _ _ => (pg_tup rfl (pgs_cons (pg_name (i := 4) sc_steps_read.nd rfl (Or.inl rfl)) (pgs_cons (pg_name (i := 5) sc_steps_read.nd rfl (Or.inl rfl)) pgs_nil)))) (fun _ _ _ _ _ => (pts_one (t_cmp (op_eqA hr.units) (RDs.do rd_eqD') (e_var (pv 4)) e_str (nomark _)))) (fun _ _ _ _ _ => (e_var (pv 5))))) pa_nil)))))))
    (b_one (s_retV (ps_ret (pv 1))))))
  exact h
end
def b_free_steps : FS :=
    (sSeq (sAsg 2 (fLst faNil))
    (sSeq (sFor (itEnum (faCons (fVar 0) faNil)) (tgT [(tgN 3), (tgN 4)]) [3, 4]
    (sIf (tAndF (bT (fOp2 (seeB (inD true)) (fVar 3) (fVar 1))) (bT (fOp2 (seeB (eqD false)) (fLc (itSee (fVar 4)) (tgN 5) [5] (bT (fOp2 (seeB (inD true)) (fVar 5) (fVar 1))) (fVar 5)) (fLst faNil))))
    (sApp 2 (fVar 3))
    sNx))
    (sRetV 2)))
def F_free_steps : FF := runF 6 2 b_free_steps
section
variable {P : Program} {w : World} {K : PySem.W.Frag} {mg : Str → Option Value} {base : Heap}
theorem ok_free_steps (T : Tx K mg w) : FnOk P w K mg base CX0 1 T.f_free_steps T.d_free_steps ["read", "done"] (spF ⟨K, P, w⟩ 2 F_free_steps) := by
  have h : FnOk P w K mg base CX0 1 T.f_free_steps T.d_free_steps ["read", "done"] (spF ⟨K, P, w⟩ [("read" : Str), ("done" : Str)].length (runF [("read" : Str), ("done" : Str), ("found" : Str), ("step" : Str), ("numbers" : Str), ("number" : Str)].length [("read" : Str), ("done" : Str)].length b_free_steps)) := fn_pi (body := b_free_steps) T.F_free_steps sc_free_steps fun cdv A outer s H E hr =>
    (b_cons (s_set (ps_set (i := 2) sc_free_steps.nd rfl (Or.inl rfl) (e_lst a_nil)))
    (b_cons (s_for (wp := [3, 4]) (gd_tup (gds_cons (gd_name (i := 3)) (gds_cons (gd_name (i := 4)) gds_nil)) rfl) (ps_for PassesOwn.never rfl (i_enum (pi_enum (by rfl) T.z_enumerate (a_cons (e_var (pv 0)) a_nil)) (pi_enumT (by rfl) T.z_enumerate (a_cons (e_var (pv 0)) a_nil))) (pg_tup rfl (pgs_cons (pg_name (i := 3) sc_free_steps.nd rfl (Or.inl rfl)) (pgs_cons (pg_name (i := 4) sc_free_steps.nd rfl (Or.inl rfl)) pgs_nil)))
    (b_one (s_ite (PW.pt (w_and (t_cmp (op_notInAll (units65 hr)) (RDs.do rd_inD') (e_var (pv 3)) (e_var (pv 1)) (by rfl)) (pw_and1 (t_cmp (op_eqA hr.units) (RDs.do rd_eqD') (e_lc (gd_name (i := 5)) (by decide) (pe_lc (own := [("number", 5)]) rfl sc_free_steps.nd (i_lc (e_var (pv 4))) (blkOk_by (own := [("number", 5)]) (N := ["read", "done", "found", "step", "numbers", "number"]) (sc := defScope s_free_steps) (by decide +kernel)) (fun _ _ _ _ _ => (pg_name (i := 5) sc_free_steps.nd rfl (Or.inl rfl))) (fun _ _ _ _ _ => (pts_one (t_cmp (op_notInAll (units65 hr)) (RDs.do rd_inD') (e_var (pv 5)) (e_var (pv 1)) (by rfl)))) (fun _ _ _ _ _ => (e_var (pv 5))))) (e_lst a_nil) (nomark _)))))
    (b_one (s_app (ps_expr (pe_bm PySem.F.plainAttrs_list PySem.F.slot_list_append PySem.F.type_list_append mt_append (pv 2) (pa_cons (e_var (pv 3)) pa_nil)))))
    b_nil))))
    (b_one (s_retV (ps_ret (pv 2))))))
  exact h
end
def b_same_truth : FS :=
    (sRet (fAnd (fIsi isBool (fVar 0)) (fOp2 (seeB (eqD false)) (fVar 0) (fVar 1))))
def F_same_truth : FF := runF 2 2 b_same_truth
section
variable {P : Program} {w : World} {K : PySem.W.Frag} {mg : Str → Option Value} {base : Heap}
theorem ok_same_truth (T : Tx K mg w) : FnOk P w K mg base CX0 1 T.f__law_same_truth T.d__law_same_truth ["_law_got", "_law_due"] (spF ⟨K, P, w⟩ 2 F_same_truth) := by
  have h : FnOk P w K mg base CX0 1 T.f__law_same_truth T.d__law_same_truth ["_law_got", "_law_due"] (spF ⟨K, P, w⟩ [("_law_got" : Str), ("_law_due" : Str)].length (runF [("_law_got" : Str), ("_law_due" : Str)].length [("_law_got" : Str), ("_law_due" : Str)].length b_same_truth)) := fn_pi (body := b_same_truth) T.F__law_same_truth sc_same_truth fun cdv A outer s H E hr =>
    (b_one (s_retE (ps_ret (e_and (e_isi (T := "bool") (kit_bool _) (by rfl) T.z_isinstance (pa_cons (e_var (pv 0)) (pa_cons (pe_bltn (v := .ty "bool") (by rfl) T.z_bool (by decide +kernel) rfl) pa_nil))) (pe_one (e_cmp (op_eqA hr.units) (RDs.do rd_eqD') (e_var (pv 0)) (e_var (pv 1)) (nomark _)))))))
  exact h
end
def b_cell_at : FS :=
    (sSeq (sIf (bT (fOp2 (seeB (ordD .Lt)) (fVar 1) (lenS (faCons (fVar 0) faNil))))
    (sRet (fOp2 (seeB ixD) (fVar 0) (fVar 1)))
    sNx)
    (sSeq (sIf (bT (fOp2 (seeB (eqD false)) (fVar 0) (fLst faNil)))
    (sRet (fC (.int 0)))
    sNx)
    (sSeq (sAsg 2 (fOp2 (seeB ixD) (fVar 0) (fOp2 (seeB modD) (fVar 1) (lenS (faCons (fVar 0) faNil)))))
    (sSeq (sFor (itRng1 (faCons (fBi minAG (faCons (fOp2 (seeB fdivD) (fVar 1) (lenS (faCons (fVar 0) faNil))) (faCons (fC (.int 60)) faNil))) faNil)) (tgN 3) [3]
    (sAsg 2 (fOp2 (seeB fdivD) (fVar 2) (fC (.int 1000003)))))
    (sFrz [2] (sRet (fOp2 addL (fOp2 addL (fOp2 (seeB mulD) (fOp2 (seeB ixD) (fVar 0) (fOp2 (seeB modD) (fVar 1) (lenS (faCons (fVar 0) faNil)))) (fC (.int 31))) (fVar 1)) (fOp2 (seeB mulD) (fVar 2) (fC (.int 101))))))))))
def F_cell_at : FF := runF 4 2 b_cell_at
section
variable {P : Program} {w : World} {K : PySem.W.Frag} {mg : Str → Option Value} {base : Heap}
theorem ok_cell_at (T : Tx K mg w) : FnOk P w K mg base CX0 1 T.f__law_cell_at T.d__law_cell_at ["_law_script", "_law_k"] (spF ⟨K, P, w⟩ 2 F_cell_at) := by
  have h : FnOk P w K mg base CX0 1 T.f__law_cell_at T.d__law_cell_at ["_law_script", "_law_k"] (spF ⟨K, P, w⟩ [("_law_script" : Str), ("_law_k" : Str)].length (runF [("_law_script" : Str), ("_law_k" : Str), ("_law_spare" : Str), ("_law_again" : Str)].length [("_law_script" : Str), ("_law_k" : Str)].length b_cell_at)) := fn_pi (body := b_cell_at) T.F__law_cell_at sc_cell_at fun cdv A outer s H E hr =>
    (b_cons (s_ite (t_cmp (op_ord (.inl rfl) hr.units) (RDs.do rd_ord) (e_var (pv 1)) (e_len (pe_callB call_lenA (by rfl) T.z_len PySem.boot_len (a_cons (e_var (pv 0)) a_nil))) (nomark _))
    (b_one (s_retE (ps_ret (e_ix ix_seq (RDs.do rd_ixD) (e_var (pv 0)) (e_var (pv 1)) (fun _ _ => rfl)))))
    b_nil)
    (b_cons (s_ite (t_cmp (op_eqA hr.units) (RDs.do rd_eqD') (e_var (pv 0)) (e_lst a_nil) (nomark _))
    (b_one (s_retE (ps_ret e_int)))
    b_nil)
    (b_cons (s_set (ps_set (i := 2) sc_cell_at.nd rfl (Or.inl rfl) (e_ix ix_seq (RDs.do rd_ixD) (e_var (pv 0)) (e_op op_modN (RDs.do rd_modD) (e_var (pv 1)) (e_len (pe_callB call_lenA (by rfl) T.z_len PySem.boot_len (a_cons (e_var (pv 0)) a_nil)))) (fun _ _ => rfl))))
    (b_cons (s_for (wp := [3]) (gd_name (i := 3)) (ps_for PassesOwn.never rfl (i_rng1 (pi_range1 (by rfl) T.z_range (a_cons (e_bi (call_minA rfl) cd_minA (by rfl) T.z_min PyProof.Rows.boot_min (a_cons (e_op op_fdivN (RDs.do rd_fdivD) (e_var (pv 1)) (e_len (pe_callB call_lenA (by rfl) T.z_len PySem.boot_len (a_cons (e_var (pv 0)) a_nil)))) (a_cons e_int a_nil))) a_nil))) (pg_name (i := 3) sc_cell_at.nd rfl (Or.inl rfl))
    (b_one (s_set (ps_set (i := 2) sc_cell_at.nd rfl (Or.inl rfl) (e_op op_fdivN (RDs.do rd_fdivD) (e_var (pv 2)) e_int))))))
    (b_one (s_frz (is := [2]) (s_retE (ps_ret (e_op op_addA rd_add2 (e_op op_addA rd_add2 (e_op op_mulA (RDs.do rd_mulD) (e_ix ix_seq (RDs.do rd_ixD) (e_var (pv 0)) (e_op op_modN (RDs.do rd_modD) (e_var (pv 1)) (e_len (pe_callB call_lenA (by rfl) T.z_len PySem.boot_len (a_cons (e_var (pv 0)) a_nil)))) (fun _ _ => rfl)) e_int) (e_var (pv 1))) (e_op op_mulA (RDs.do rd_mulD) (e_var (pv 2)) e_int))))))))))
  exact h
end
def b_is_thing : FS :=
    (sSeq (sIf (tNotF (bT (fCall 3 F_is_tuple (faCons (fVar 0) (faCons (fC (.int 1)) (faCons (fC (.int 4)) faNil))))))
    (sRet (fC (.bool false)))
    sNx)
    (sSeq (sFor (itTake (fVar 0)) (tgN 1) [1]
    (sIf (tNotF (bT (fCall 2 F_is_text (faCons (fVar 1) (faCons (fC (.int 4)) faNil)))))
    (sRet (fC (.bool false)))
    sNx))
    (sRet (fCall 1 F_is_ascending (faCons (fVar 0) faNil)))))
def F_is_thing : FF := runF 2 1 b_is_thing
section
variable {P : Program} {w : World} {K : PySem.W.Frag} {mg : Str → Option Value} {base : Heap}
theorem ok_is_thing (T : Tx K mg w) : FnOk P w K mg base CX0 2 T.f_is_thing T.d_is_thing ["value"] (spF ⟨K, P, w⟩ 1 F_is_thing) := by
  have G_is_tuple := ok_is_tuple (P := P) (base := base) T
  have G_is_text := ok_is_text (P := P) (base := base) T
  have G_is_ascending := ok_is_ascending (P := P) (base := base) T
  have h : FnOk P w K mg base CX0 2 T.f_is_thing T.d_is_thing ["value"] (spF ⟨K, P, w⟩ [("value" : Str)].length (runF [("value" : Str), ("text" : Str)].length [("value" : Str)].length b_is_thing)) := fn_pi (body := b_is_thing) T.F_is_thing sc_is_thing fun cdv A outer s H E hr =>
    (b_cons (s_ite (t_not (t_val (e_call G_is_tuple hr (by rfl) T.g_is_tuple T.F_is_tuple.kp T.b_is_tuple (a_cons (e_var (pv 0)) (a_cons e_int (a_cons (e_cst (pe_glob (v := .int 4) (by rfl) T.g_MOST_TEXTS ⟨_, rfl⟩) (fun _ => .int _)) a_nil))))))
    (b_one (s_retE (ps_ret e_bl)))
    b_nil)
    (b_cons (s_for (wp := [1]) (gd_name (i := 1)) (ps_for PassesOwn.never rfl (i_for (e_var (pv 0))) (pg_name (i := 1) sc_is_thing.nd rfl (Or.inl rfl))
    (b_one (s_ite (t_not (t_val (e_call G_is_text hr (by rfl) T.g_is_text T.F_is_text.kp T.b_is_text (a_cons (e_var (pv 1)) (a_cons (e_cst (pe_glob (v := .int 4) (by rfl) T.g_LONGEST_TEXT ⟨_, rfl⟩) (fun _ => .int _)) a_nil)))))
    (b_one (s_retE (ps_ret e_bl)))
    b_nil))))
    (b_one (s_retE (ps_ret (e_call G_is_ascending hr (by rfl) T.g_is_ascending T.F_is_ascending.kp T.b_is_ascending (a_cons (e_var (pv 0)) a_nil)))))))
  exact h
end
def b_is_reading : FS :=
    (sSeq (sIf (tNotF (bT (fCall 3 F_is_tuple (faCons (fVar 0) (faCons (fC (.int 2)) (faCons (fC (.int 2)) faNil))))))
    (sRet (fC (.bool false)))
    sNx)
    (sSeq (sAsgT (tgT [(tgN 3), (tgN 4)]) (fVar 0))
    (sSeq (sIf (tNotF (bT (fIsi isStr (fVar 3))))
    (sRet (fC (.bool false)))
    sNx)
    (sSeq (sIf (bT (fOp2 (seeB (eqD false)) (fVar 3) (fC (.str "thing"))))
    (sRet (fCall 3 F_is_number (faCons (fVar 4) (faCons (fC (.int 0)) (faCons (fOp2 (seeB subD) (fVar 1) (fC (.int 1))) faNil)))))
    sNx)
    (sRet (fAnd (fOp2 (seeB (eqD false)) (fVar 3) (fC (.str "step"))) (fCall 3 F_is_number (faCons (fVar 4) (faCons (fC (.int 0)) (faCons (fOp2 (seeB subD) (fVar 2) (fC (.int 1))) faNil))))))))))
def F_is_reading : FF := runF 5 3 b_is_reading
section
variable {P : Program} {w : World} {K : PySem.W.Frag} {mg : Str → Option Value} {base : Heap}
theorem ok_is_reading (T : Tx K mg w) : FnOk P w K mg base CX0 2 T.f_is_reading T.d_is_reading ["value", "many_things", "step"] (spF ⟨K, P, w⟩ 3 F_is_reading) := by
  have G_is_tuple := ok_is_tuple (P := P) (base := base) T
  have G_is_number := ok_is_number (P := P) (base := base) T
  have h : FnOk P w K mg base CX0 2 T.f_is_reading T.d_is_reading ["value", "many_things", "step"] (spF ⟨K, P, w⟩ [("value" : Str), ("many_things" : Str), ("step" : Str)].length (runF [("value" : Str), ("many_things" : Str), ("step" : Str), ("word" : Str), ("number" : Str)].length [("value" : Str), ("many_things" : Str), ("step" : Str)].length b_is_reading)) := fn_pi (body := b_is_reading) T.F_is_reading sc_is_reading fun cdv A outer s H E hr =>
    (b_cons (s_ite (t_not (t_val (e_call G_is_tuple hr (by rfl) T.g_is_tuple T.F_is_tuple.kp T.b_is_tuple (a_cons (e_var (pv 0)) (a_cons e_int (a_cons e_int a_nil))))))
    (b_one (s_retE (ps_ret e_bl)))
    b_nil)
    (b_cons (s_setT (gd_tup (gds_cons (gd_name (i := 3)) (gds_cons (gd_name (i := 4)) gds_nil)) rfl) (ps_asg (e_var (pv 0)) (pg_tup rfl (pgs_cons (pg_name (i := 3) sc_is_reading.nd rfl (Or.inl rfl)) (pgs_cons (pg_name (i := 4) sc_is_reading.nd rfl (Or.inl rfl)) pgs_nil)))))
    (b_cons (s_ite (t_not (t_val (e_isi (T := "str") (kit_str _) (by rfl) T.z_isinstance (pa_cons (e_var (pv 3)) (pa_cons (pe_bltn (v := .ty "str") (by rfl) T.z_str (by decide +kernel) rfl) pa_nil)))))
    (b_one (s_retE (ps_ret e_bl)))
    b_nil)
    (b_cons (s_ite (t_cmp (op_eqA hr.units) (RDs.do rd_eqD') (e_var (pv 3)) e_str (nomark _))
    (b_one (s_retE (ps_ret (e_call G_is_number hr (by rfl) T.g_is_number T.F_is_number.kp T.b_is_number (a_cons (e_var (pv 4)) (a_cons e_int (a_cons (e_op op_sub (RDs.do rd_subD) (e_var (pv 1)) e_int) a_nil)))))))
    b_nil)
    (b_one (s_retE (ps_ret (e_and (e_cmp (op_eqA hr.units) (RDs.do rd_eqD') (e_var (pv 3)) e_str (nomark _)) (pe_one (e_call G_is_number hr (by rfl) T.g_is_number T.F_is_number.kp T.b_is_number (a_cons (e_var (pv 4)) (a_cons e_int (a_cons (e_op op_sub (RDs.do rd_subD) (e_var (pv 2)) e_int) a_nil)))))))))))))
  exact h
end
def b_is_made : FS :=
    (sSeq (sIf (tNotF (bT (fCall 3 F_is_tuple (faCons (fVar 0) (faCons (fC (.int 1)) (faCons (fC (.int 3)) faNil))))))
    (sRet (fC (.bool false)))
    sNx)
    (sSeq (sFor (itTake (fVar 0)) (tgN 2) [2]
    (sIf (tNotF (bT (fCall 3 F_is_number (faCons (fVar 2) (faCons (fC (.int 0)) (faCons (fOp2 (seeB subD) (fVar 1) (fC (.int 1))) faNil))))))
    (sRet (fC (.bool false)))
    sNx))
    (sRet (fCall 1 F_is_ascending (faCons (fVar 0) faNil)))))
def F_is_made : FF := runF 3 2 b_is_made
section
variable {P : Program} {w : World} {K : PySem.W.Frag} {mg : Str → Option Value} {base : Heap}
theorem ok_is_made (T : Tx K mg w) : FnOk P w K mg base CX0 2 T.f_is_made T.d_is_made ["value", "many_steps"] (spF ⟨K, P, w⟩ 2 F_is_made) := by
  have G_is_tuple := ok_is_tuple (P := P) (base := base) T
  have G_is_number := ok_is_number (P := P) (base := base) T
  have G_is_ascending := ok_is_ascending (P := P) (base := base) T
  have h : FnOk P w K mg base CX0 2 T.f_is_made T.d_is_made ["value", "many_steps"] (spF ⟨K, P, w⟩ [("value" : Str), ("many_steps" : Str)].length (runF [("value" : Str), ("many_steps" : Str), ("number" : Str)].length [("value" : Str), ("many_steps" : Str)].length b_is_made)) := fn_pi (body := b_is_made) T.F_is_made sc_is_made fun cdv A outer s H E hr =>
    (b_cons (s_ite (t_not (t_val (e_call G_is_tuple hr (by rfl) T.g_is_tuple T.F_is_tuple.kp T.b_is_tuple (a_cons (e_var (pv 0)) (a_cons e_int (a_cons (e_cst (pe_glob (v := .int 3) (by rfl) T.g_MOST_MADE ⟨_, rfl⟩) (fun _ => .int _)) a_nil))))))
    (b_one (s_retE (ps_ret e_bl)))
    b_nil)
    (b_cons (s_for (wp := [2]) (gd_name (i := 2)) (ps_for PassesOwn.never rfl (i_for (e_var (pv 0))) (pg_name (i := 2) sc_is_made.nd rfl (Or.inl rfl))
    (b_one (s_ite (t_not (t_val (e_call G_is_number hr (by rfl) T.g_is_number T.F_is_number.kp T.b_is_number (a_cons (e_var (pv 2)) (a_cons e_int (a_cons (e_op op_sub (RDs.do rd_subD) (e_var (pv 1)) e_int) a_nil))))))
    (b_one (s_retE (ps_ret e_bl)))
    b_nil))))
    (b_one (s_retE (ps_ret (e_call G_is_ascending hr (by rfl) T.g_is_ascending T.F_is_ascending.kp T.b_is_ascending (a_cons (e_var (pv 0)) a_nil)))))))
  exact h
end
def b_is_order_of : FS :=
    (sSeq (sAsg 2 (fCall 1 F_steps_read (faCons (fVar 0) faNil)))
    (sSeq (sAsg 3 fNewI)
    (sSeq (sFor (itTake (fVar 1)) (tgN 4) [4, 5]
    (sSeq (sIf (bT (fOp2 (inIG false) (fVar 4) (fVar 3)))
    (sRet (fC (.bool false)))
    sNx)
    (sSeq (sFor (itTake (fOp2 (seeB ixD) (fVar 2) (fVar 4))) (tgN 5) [5]
    (sIf (bT (fOp2 (inIG true) (fVar 5) (fVar 3)))
    (sRet (fC (.bool false)))
    sNx))
    (sPutI 3 (fVar 4) (fC (.bool true))))))
    (sRet (fC (.bool true))))))
def F_is_order_of : FF := runF 6 2 b_is_order_of
section
variable {P : Program} {w : World} {K : PySem.W.Frag} {mg : Str → Option Value} {base : Heap}
theorem ok_is_order_of (T : Tx K mg w) : FnOk P w K mg base CX0 2 T.f_is_order_of T.d_is_order_of ["recipe", "value"] (spF ⟨K, P, w⟩ 2 F_is_order_of) := by
  have G_steps_read := ok_steps_read (P := P) (base := base) T
  have h : FnOk P w K mg base CX0 2 T.f_is_order_of T.d_is_order_of ["recipe", "value"] (spF ⟨K, P, w⟩ [("recipe" : Str), ("value" : Str)].length (runF [("recipe" : Str), ("value" : Str), ("read" : Str), ("made" : Str), ("step" : Str), ("number" : Str)].length [("recipe" : Str), ("value" : Str)].length b_is_order_of)) := fn_pi (body := b_is_order_of) T.F_is_order_of sc_is_order_of fun cdv A outer s H E hr =>
    (b_cons (s_set (ps_set (i := 2) sc_is_order_of.nd rfl (Or.inl rfl) (e_call G_steps_read hr (by rfl) T.g_steps_read T.F_steps_read.kp T.b_steps_read (a_cons (e_var (pv 0)) a_nil))))
    (b_cons (s_set (ps_set (i := 3) sc_is_order_of.nd rfl (Or.inl rfl) (e_newI pe_newT)))
    (b_cons (s_for (wp := [4, 5]) (gd_name (i := 4)) (ps_for PassesOwn.never rfl (i_for (e_var (pv 1))) (pg_name (i := 4) sc_is_order_of.nd rfl (Or.inl rfl))
    (b_cons (s_ite (t_cmp op_inI rd_inI (e_var (pv 4)) (e_var (pv 3)) (by rfl))
    (b_one (s_retE (ps_ret e_bl)))
    b_nil)
    (b_cons (s_for (wp := [5]) (gd_name (i := 5)) (ps_for PassesOwn.never rfl (i_for (e_ix ix_seq (RDs.do rd_ixD) (e_var (pv 2)) (e_var (pv 4)) (fun _ _ => rfl))) (pg_name (i := 5) sc_is_order_of.nd rfl (Or.inl rfl))
    (b_one (s_ite (t_cmp op_notInI rd_inI (e_var (pv 5)) (e_var (pv 3)) (by rfl))
    (b_one (s_retE (ps_ret e_bl)))
    b_nil))))
    (b_one (s_putI (ps_tputI (pv 3) (e_var (pv 4)) e_bl (by rfl))))))))
    (b_one (s_retE (ps_ret e_bl))))))
  exact h
end
def b_mixed : FS :=
    (sSeq (sAsg 3 (fOp2 (seeB modD) (fOp2 addL (fOp2 addL (fOp2 (seeB mulD) (fCall 2 F_cell_at (faCons (fVar 0) (faCons (fVar 1) faNil))) (fC (.int 1103515245))) (fOp2 (seeB mulD) (fC (.int 7919)) (fVar 1))) (fC (.int 12345))) (fC (.int 2147483647))))
    (sFrz [3] (sRet (fOp2 (seeB modD) (fOp2 (seeB modD) (fOp2 (seeB modD) (fOp2 (seeB powD) (fVar 3) (fC (.int 5))) (fC (.int 2147483647))) (fC (.int 999983))) (fVar 2)))))
def F_mixed : FF := runF 4 3 b_mixed
section
variable {P : Program} {w : World} {K : PySem.W.Frag} {mg : Str → Option Value} {base : Heap}
theorem ok_mixed (T : Tx K mg w) : FnOk P w K mg base CX0 2 T.f__law_mixed T.d__law_mixed ["_law_script", "_law_k", "_law_many"] (spF ⟨K, P, w⟩ 3 F_mixed) := by
  have G_cell_at := ok_cell_at (P := P) (base := base) T
  have h : FnOk P w K mg base CX0 2 T.f__law_mixed T.d__law_mixed ["_law_script", "_law_k", "_law_many"] (spF ⟨K, P, w⟩ [("_law_script" : Str), ("_law_k" : Str), ("_law_many" : Str)].length (runF [("_law_script" : Str), ("_law_k" : Str), ("_law_many" : Str), ("_law_spun" : Str)].length [("_law_script" : Str), ("_law_k" : Str), ("_law_many" : Str)].length b_mixed)) := fn_pi (body := b_mixed) T.F__law_mixed sc_mixed fun cdv A outer s H E hr =>
    (b_cons (s_set (ps_set (i := 3) sc_mixed.nd rfl (Or.inl rfl) (e_op op_modN (RDs.do rd_modD) (e_op op_addA rd_add2 (e_op op_addA rd_add2 (e_op op_mulA (RDs.do rd_mulD) (e_call G_cell_at hr (by rfl) T.g__law_cell_at T.F__law_cell_at.kp T.b__law_cell_at (a_cons (e_var (pv 0)) (a_cons (e_var (pv 1)) a_nil))) e_int) (e_op op_mulA (RDs.do rd_mulD) e_int (e_var (pv 1)))) e_int) e_int)))
    (b_one (s_frz (is := [3]) (s_retE (ps_ret (e_op op_modN (RDs.do rd_modD) (e_op op_modN (RDs.do rd_modD) (e_op op_modN (RDs.do rd_modD) (e_op op_pow (RDs.do rd_powD) (e_var (pv 3)) e_int) e_int) e_int) (e_var (pv 2))))))))
  exact h
end
def b_are_things : FS :=
    (sSeq (sIf (tNotF (bT (fCall 3 F_is_tuple (faCons (fVar 0) (faCons (fC (.int 1)) (faCons (fC (.int 5)) faNil))))))
    (sRet (fC (.bool false)))
    sNx)
    (sSeq (sAsg 1 (fC (.int 1)))
    (sSeq (sFor (itTake (fVar 0)) (tgN 2) [2]
    (sSeq (sIf (tNotF (bT (fCall 1 F_is_thing (faCons (fVar 2) faNil))))
    (sRet (fC (.bool false)))
    sNx)
    (sAsg 1 (fOp2 (seeB mulD) (fVar 1) (lenS (faCons (fVar 2) faNil))))))
    (sFrz [1] (sRet (fOp2 (seeB (ordD .LtE)) (fVar 1) (fC (.int 256))))))))
def F_are_things : FF := runF 3 1 b_are_things
section
variable {P : Program} {w : World} {K : PySem.W.Frag} {mg : Str → Option Value} {base : Heap}
theorem ok_are_things (T : Tx K mg w) : FnOk P w K mg base CX0 3 T.f_are_things T.d_are_things ["value"] (spF ⟨K, P, w⟩ 1 F_are_things) := by
  have G_is_tuple := ok_is_tuple (P := P) (base := base) T
  have G_is_thing := ok_is_thing (P := P) (base := base) T
  have h : FnOk P w K mg base CX0 3 T.f_are_things T.d_are_things ["value"] (spF ⟨K, P, w⟩ [("value" : Str)].length (runF [("value" : Str), ("many" : Str), ("thing" : Str)].length [("value" : Str)].length b_are_things)) := fn_pi (body := b_are_things) T.F_are_things sc_are_things fun cdv A outer s H E hr =>
    (b_cons (s_ite (t_not (t_val (e_call G_is_tuple (hr.mono (by decide)) (by rfl) T.g_is_tuple T.F_is_tuple.kp T.b_is_tuple (a_cons (e_var (pv 0)) (a_cons e_int (a_cons (e_cst (pe_glob (v := .int 5) (by rfl) T.g_MOST_THINGS ⟨_, rfl⟩) (fun _ => .int _)) a_nil))))))
    (b_one (s_retE (ps_ret e_bl)))
    b_nil)
    (b_cons (s_set (ps_set (i := 1) sc_are_things.nd rfl (Or.inl rfl) e_int))
    (b_cons (s_for (wp := [2]) (gd_name (i := 2)) (ps_for PassesOwn.never rfl (i_for (e_var (pv 0))) (pg_name (i := 2) sc_are_things.nd rfl (Or.inl rfl))
    (b_cons (s_ite (t_not (t_val (e_call G_is_thing hr (by rfl) T.g_is_thing T.F_is_thing.kp T.b_is_thing (a_cons (e_var (pv 2)) a_nil))))
    (b_one (s_retE (ps_ret e_bl)))
    b_nil)
    (b_one (s_set (ps_set (i := 1) sc_are_things.nd rfl (Or.inl rfl) (e_op op_mulA (RDs.do rd_mulD) (e_var (pv 1)) (e_len (pe_callB call_lenA (by rfl) T.z_len PySem.boot_len (a_cons (e_var (pv 2)) a_nil))))))))))
    (b_one (s_frz (is := [1]) (s_retE (ps_ret (e_cmp (op_ord (.inr (.inr (.inl rfl))) hr.units) (RDs.do rd_ord) (e_var (pv 1)) (e_cst (pe_glob (v := .int 256) (by rfl) T.g_MOST_WORLDS ⟨_, rfl⟩) (fun _ => .int _)) (nomark _)))))))))
  exact h
end
def b_is_step : FS :=
    (sSeq (sIf (tNotF (bT (fCall 3 F_is_tuple (faCons (fVar 0) (faCons (fC (.int 2)) (faCons (fC (.int 2)) faNil))))))
    (sRet (fC (.bool false)))
    sNx)
    (sSeq (sAsgT (tgT [(tgN 3), (tgN 4)]) (fVar 0))
    (sSeq (sIf (tOrF (tNotF (bT (fIsi isStr (fVar 3)))) (bT (fInM true mREADINGS (fVar 3))))
    (sRet (fC (.bool false)))
    sNx)
    (sSeq (sIf (tNotF (bT (fCall 3 F_is_tuple (faCons (fVar 4) (faCons (fIxM mREADINGS (fVar 3)) (faCons (fIxM mREADINGS (fVar 3)) faNil))))))
    (sRet (fC (.bool false)))
    sNx)
    (sSeq (sFor (itTake (fVar 4)) (tgN 5) [5]
    (sIf (tNotF (bT (fCall 3 F_is_reading (faCons (fVar 5) (faCons (fVar 1) (faCons (fVar 2) faNil))))))
    (sRet (fC (.bool false)))
    sNx))
    (sRet (fC (.bool true))))))))
def F_is_step : FF := runF 6 3 b_is_step
section
variable {P : Program} {w : World} {K : PySem.W.Frag} {mg : Str → Option Value} {base : Heap}
theorem ok_is_step (T : Tx K mg w) : FnOk P w K mg base CX0 3 T.f_is_step T.d_is_step ["value", "many_things", "step"] (spF ⟨K, P, w⟩ 3 F_is_step) := by
  have G_is_tuple := ok_is_tuple (P := P) (base := base) T
  have G_is_reading := ok_is_reading (P := P) (base := base) T
  have h : FnOk P w K mg base CX0 3 T.f_is_step T.d_is_step ["value", "many_things", "step"] (spF ⟨K, P, w⟩ [("value" : Str), ("many_things" : Str), ("step" : Str)].length (runF [("value" : Str), ("many_things" : Str), ("step" : Str), ("operation" : Str), ("reads" : Str), ("reading" : Str)].length [("value" : Str), ("many_things" : Str), ("step" : Str)].length b_is_step)) := fn_pi (body := b_is_step) T.F_is_step sc_is_step fun cdv A outer s H E hr =>
    (b_cons (s_ite (t_not (t_val (e_call G_is_tuple (hr.mono (by decide)) (by rfl) T.g_is_tuple T.F_is_tuple.kp T.b_is_tuple (a_cons (e_var (pv 0)) (a_cons e_int (a_cons e_int a_nil))))))
    (b_one (s_retE (ps_ret e_bl)))
    b_nil)
    (b_cons (s_setT (gd_tup (gds_cons (gd_name (i := 3)) (gds_cons (gd_name (i := 4)) gds_nil)) rfl) (ps_asg (e_var (pv 0)) (pg_tup rfl (pgs_cons (pg_name (i := 3) sc_is_step.nd rfl (Or.inl rfl)) (pgs_cons (pg_name (i := 4) sc_is_step.nd rfl (Or.inl rfl)) pgs_nil)))))
    (b_cons (s_ite (PW.pt (w_or (t_not (t_val (e_isi (T := "str") (kit_str _) (by rfl) T.z_isinstance (pa_cons (e_var (pv 3)) (pa_cons (pe_bltn (v := .ty "str") (by rfl) T.z_str (by decide +kernel) rfl) pa_nil))))) (pw_or1 (t_notInM T.m_READINGS (pt_cmpR op_notInDm (e_var (pv 3)) (pe_glob (v := .ref T.a_READINGS) (by rfl) T.g_READINGS rfl) (by rfl))))))
    (b_one (s_retE (ps_ret e_bl)))
    b_nil)
    (b_cons (s_ite (t_not (t_val (e_call G_is_tuple (hr.mono (by decide)) (by rfl) T.g_is_tuple T.F_is_tuple.kp T.b_is_tuple (a_cons (e_var (pv 4)) (a_cons (e_ixM T.m_READINGS (pe_ix ix_dm (pe_glob (v := .ref T.a_READINGS) (by rfl) T.g_READINGS rfl) (e_var (pv 3)) (fun _ _ => rfl))) (a_cons (e_ixM T.m_READINGS (pe_ix ix_dm (pe_glob (v := .ref T.a_READINGS) (by rfl) T.g_READINGS rfl) (e_var (pv 3)) (fun _ _ => rfl))) a_nil))))))
    (b_one (s_retE (ps_ret e_bl)))
    b_nil)
    (b_cons (s_for (wp := [5]) (gd_name (i := 5)) (ps_for PassesOwn.never rfl (i_for (e_var (pv 4))) (pg_name (i := 5) sc_is_step.nd rfl (Or.inl rfl))
    (b_one (s_ite (t_not (t_val (e_call G_is_reading hr (by rfl) T.g_is_reading T.F_is_reading.kp T.b_is_reading (a_cons (e_var (pv 5)) (a_cons (e_var (pv 1)) (a_cons (e_var (pv 2)) a_nil))))))
    (b_one (s_retE (ps_ret e_bl)))
    b_nil))))
    (b_one (s_retE (ps_ret e_bl))))))))
  exact h
end
def b_draw : FS :=
    (sSeq (sDraw 1)
    (sRet (fCall 3 F_mixed (faCons (fVar 0) (faCons (lenS (faCons (fVar 1) faNil)) (faCons (fVar 2) faNil))))))
def F_draw : FF := runF 3 3 b_draw
section
variable {P : Program} {w : World} {K : PySem.W.Frag} {mg : Str → Option Value} {base : Heap}
theorem ok_draw (T : Tx K mg w) : FnOk P w K mg base CX0 3 T.f__law_draw T.d__law_draw ["_law_script", "_law_state", "_law_many"] (spF ⟨K, P, w⟩ 3 F_draw) := by
  have G_mixed := ok_mixed (P := P) (base := base) T
  have h : FnOk P w K mg base CX0 3 T.f__law_draw T.d__law_draw ["_law_script", "_law_state", "_law_many"] (spF ⟨K, P, w⟩ [("_law_script" : Str), ("_law_state" : Str), ("_law_many" : Str)].length (runF [("_law_script" : Str), ("_law_state" : Str), ("_law_many" : Str)].length [("_law_script" : Str), ("_law_state" : Str), ("_law_many" : Str)].length b_draw)) := fn_pi (body := b_draw) T.F__law_draw sc_draw fun cdv A outer s H E hr =>
    (b_cons (st_draw (ps_expr (pe_bm PySem.F.plainAttrs_list PySem.F.slot_list_append PySem.F.type_list_append mt_append (pv 1) (pa_cons pe_int pa_nil))))
    (b_one (s_retE (ps_ret (e_call G_mixed hr (by rfl) T.g__law_mixed T.F__law_mixed.kp T.b__law_mixed (a_cons (e_var (pv 0)) (a_cons (e_len (pe_callB call_lenA (by rfl) T.z_len PySem.boot_len (a_cons (e_var (pv 1)) a_nil))) (a_cons (e_var (pv 2)) a_nil))))))))
  exact h
end
def b_are_steps : FS :=
    (sSeq (sIf (tNotF (bT (fCall 3 F_is_tuple (faCons (fVar 0) (faCons (fC (.int 1)) (faCons (fC (.int 8)) faNil))))))
    (sRet (fC (.bool false)))
    sNx)
    (sSeq (sFor (itRng1 (faCons (lenS (faCons (fVar 0) faNil)) faNil)) (tgN 2) [2]
    (sIf (tNotF (bT (fCall 3 F_is_step (faCons (fOp2 (seeB ixD) (fVar 0) (fVar 2)) (faCons (fVar 1) (faCons (fVar 2) faNil))))))
    (sRet (fC (.bool false)))
    sNx))
    (sRet (fC (.bool true)))))
def F_are_steps : FF := runF 3 2 b_are_steps
section
variable {P : Program} {w : World} {K : PySem.W.Frag} {mg : Str → Option Value} {base : Heap}
theorem ok_are_steps (T : Tx K mg w) : FnOk P w K mg base CX0 4 T.f_are_steps T.d_are_steps ["value", "many_things"] (spF ⟨K, P, w⟩ 2 F_are_steps) := by
  have G_is_tuple := ok_is_tuple (P := P) (base := base) T
  have G_is_step := ok_is_step (P := P) (base := base) T
  have h : FnOk P w K mg base CX0 4 T.f_are_steps T.d_are_steps ["value", "many_things"] (spF ⟨K, P, w⟩ [("value" : Str), ("many_things" : Str)].length (runF [("value" : Str), ("many_things" : Str), ("at" : Str)].length [("value" : Str), ("many_things" : Str)].length b_are_steps)) := fn_pi (body := b_are_steps) T.F_are_steps sc_are_steps fun cdv A outer s H E hr =>
    (b_cons (s_ite (t_not (t_val (e_call G_is_tuple (hr.mono (by decide)) (by rfl) T.g_is_tuple T.F_is_tuple.kp T.b_is_tuple (a_cons (e_var (pv 0)) (a_cons e_int (a_cons (e_cst (pe_glob (v := .int 8) (by rfl) T.g_MOST_STEPS ⟨_, rfl⟩) (fun _ => .int _)) a_nil))))))
    (b_one (s_retE (ps_ret e_bl)))
    b_nil)
    (b_cons (s_for (wp := [2]) (gd_name (i := 2)) (ps_for PassesOwn.never rfl (i_rng1 (pi_range1 (by rfl) T.z_range (a_cons (e_len (pe_callB call_lenA (by rfl) T.z_len PySem.boot_len (a_cons (e_var (pv 0)) a_nil))) a_nil))) (pg_name (i := 2) sc_are_steps.nd rfl (Or.inl rfl))
    (b_one (s_ite (t_not (t_val (e_call G_is_step hr (by rfl) T.g_is_step T.F_is_step.kp T.b_is_step (a_cons (e_ix ix_seq (RDs.do rd_ixD) (e_var (pv 0)) (e_var (pv 2)) (fun _ _ => rfl)) (a_cons (e_var (pv 1)) (a_cons (e_var (pv 2)) a_nil))))))
    (b_one (s_retE (ps_ret e_bl)))
    b_nil))))
    (b_one (s_retE (ps_ret e_bl)))))
  exact h
end
def b_some_of : FS :=
    (sSeq (sPar 4 5 (fBi (see1 lstG) (faCons (fVar 2) faNil)) (fLst faNil))
    (sSeq (sWhile (tAndF (bT (fOp2 (seeB (eqD true)) (fVar 4) (fLst faNil))) (bT (fOp2 (seeB (ordD .Lt)) (lenS (faCons (fVar 5) faNil)) (fVar 3)))) []
    (sAppPop 5 4 (fCall 3 F_draw (faCons (fVar 0) (faCons (fVar 1) (faCons (lenS (faCons (fVar 4) faNil)) faNil))))) fuel)
    (sFrz [5] (sRet (fBi (see1 tupG) (faCons (fBi (see1 sortG) (faCons (fVar 5) faNil)) faNil))))))
def F_some_of : FF := runF 6 4 b_some_of
section
variable {P : Program} {w : World} {K : PySem.W.Frag} {mg : Str → Option Value} {base : Heap}
theorem ok_some_of (T : Tx K mg w) : FnOk P w K mg base CX0 4 T.f__law_some_of T.d__law_some_of ["_law_script", "_law_state", "_law_some", "_law_count"] (spF ⟨K, P, w⟩ 4 F_some_of) := by
  have G_draw := ok_draw (P := P) (base := base) T
  have h : FnOk P w K mg base CX0 4 T.f__law_some_of T.d__law_some_of ["_law_script", "_law_state", "_law_some", "_law_count"] (spF ⟨K, P, w⟩ [("_law_script" : Str), ("_law_state" : Str), ("_law_some" : Str), ("_law_count" : Str)].length (runF [("_law_script" : Str), ("_law_state" : Str), ("_law_some" : Str), ("_law_count" : Str), ("_law_left" : Str), ("_law_found" : Str)].length [("_law_script" : Str), ("_law_state" : Str), ("_law_some" : Str), ("_law_count" : Str)].length b_some_of)) := fn_pi (body := b_some_of) T.F__law_some_of sc_some_of fun cdv A outer s H E hr =>
    (b_cons (s_par2 (ps_par (i := 4) (j := 5) (by rfl) sc_some_of.nd rfl rfl (by decide) rfl rfl (pa_cons (e_ty call_list_of cd_lst (by rfl) T.z_list (by decide +kernel) (a_cons (e_var (pv 2)) a_nil)) (pa_cons (e_lst a_nil) pa_nil)) (by rfl)))
    (b_cons (s_while (wp := []) (ps_while PassesOwn.never (PW.pt (w_and (t_cmp (op_neA hr.units) (RDs.do rd_neD') (e_var (pv 4)) (e_lst a_nil) (nomark _)) (pw_and1 (t_cmp (op_ord (.inl rfl) hr.units) (RDs.do rd_ord) (e_len (pe_callB call_lenA (by rfl) T.z_len PySem.boot_len (a_cons (e_var (pv 5)) a_nil))) (e_var (pv 3)) (nomark _)))))
    (b_one (s_appPop (ps_expr (pe_bm PySem.F.plainAttrs_list PySem.F.slot_list_append PySem.F.type_list_append mt_append (pv 5) (pa_cons (pe_bm PySem.F.plainAttrs_list PySem.F.slot_list_pop PySem.F.type_list_pop mt_popAt (pv 4) (pa_cons (e_call G_draw hr (by rfl) T.g__law_draw T.F__law_draw.kp T.b__law_draw (a_cons (e_var (pv 0)) (a_cons (e_var (pv 1)) (a_cons (e_len (pe_callB call_lenA (by rfl) T.z_len PySem.boot_len (a_cons (e_var (pv 4)) a_nil))) a_nil)))) pa_nil)) pa_nil)))))))
    (b_one (s_frz (is := [5]) (s_retE (ps_ret (e_ty call_tuple_of cd_tup (by rfl) T.z_tuple (by decide +kernel) (a_cons (e_bi (cr_sortAll rfl hr.units) cd_sortAll (by rfl) T.z_sorted (by decide +kernel) (a_cons (e_var (pv 5)) a_nil)) a_nil))))))))
  exact h
end
def b_pick : FS :=
    (sRet (fOp2 (seeB ixD) (fVar 2) (fCall 3 F_draw (faCons (fVar 0) (faCons (fVar 1) (faCons (lenS (faCons (fVar 2) faNil)) faNil))))))
def F_pick : FF := runF 3 3 b_pick
section
variable {P : Program} {w : World} {K : PySem.W.Frag} {mg : Str → Option Value} {base : Heap}
theorem ok_pick (T : Tx K mg w) : FnOk P w K mg base CX0 4 T.f__law_pick T.d__law_pick ["_law_script", "_law_state", "_law_some"] (spF ⟨K, P, w⟩ 3 F_pick) := by
  have G_draw := ok_draw (P := P) (base := base) T
  have h : FnOk P w K mg base CX0 4 T.f__law_pick T.d__law_pick ["_law_script", "_law_state", "_law_some"] (spF ⟨K, P, w⟩ [("_law_script" : Str), ("_law_state" : Str), ("_law_some" : Str)].length (runF [("_law_script" : Str), ("_law_state" : Str), ("_law_some" : Str)].length [("_law_script" : Str), ("_law_state" : Str), ("_law_some" : Str)].length b_pick)) := fn_pi (body := b_pick) T.F__law_pick sc_pick fun cdv A outer s H E hr =>
    (b_one (s_retE (ps_ret (e_ix ix_seq (RDs.do rd_ixD) (e_var (pv 2)) (e_call G_draw hr (by rfl) T.g__law_draw T.F__law_draw.kp T.b__law_draw (a_cons (e_var (pv 0)) (a_cons (e_var (pv 1)) (a_cons (e_len (pe_callB call_lenA (by rfl) T.z_len PySem.boot_len (a_cons (e_var (pv 2)) a_nil))) a_nil)))) (fun _ _ => rfl)))))
  exact h
end
def b_is_recipe : FS :=
    (sSeq (sIf (tNotF (bT (fCall 3 F_is_tuple (faCons (fVar 0) (faCons (fC (.int 3)) (faCons (fC (.int 3)) faNil))))))
    (sRet (fC (.bool false)))
    sNx)
    (sSeq (sAsgT (tgT [(tgN 1), (tgN 2), (tgN 3)]) (fVar 0))
    (sRet (fAnd (fCall 1 F_are_things (faCons (fVar 1) faNil)) (fAnd (fCall 2 F_are_steps (faCons (fVar 2) (faCons (lenS (faCons (fVar 1) faNil)) faNil))) (fCall 2 F_is_made (faCons (fVar 3) (faCons (lenS (faCons (fVar 2) faNil)) faNil))))))))
def F_is_recipe : FF := runF 4 1 b_is_recipe
section
variable {P : Program} {w : World} {K : PySem.W.Frag} {mg : Str → Option Value} {base : Heap}
theorem ok_is_recipe (T : Tx K mg w) : FnOk P w K mg base CX0 5 T.f_is_recipe T.d_is_recipe ["value"] (spF ⟨K, P, w⟩ 1 F_is_recipe) := by
  have G_is_tuple := ok_is_tuple (P := P) (base := base) T
  have G_is_made := ok_is_made (P := P) (base := base) T
  have G_are_steps := ok_are_steps (P := P) (base := base) T
  have G_are_things := ok_are_things (P := P) (base := base) T
  have h : FnOk P w K mg base CX0 5 T.f_is_recipe T.d_is_recipe ["value"] (spF ⟨K, P, w⟩ [("value" : Str)].length (runF [("value" : Str), ("things" : Str), ("steps" : Str), ("made" : Str)].length [("value" : Str)].length b_is_recipe)) := fn_pi (body := b_is_recipe) T.F_is_recipe sc_is_recipe fun cdv A outer s H E hr =>
    (b_cons (s_ite (t_not (t_val (e_call G_is_tuple (hr.mono (by decide)) (by rfl) T.g_is_tuple T.F_is_tuple.kp T.b_is_tuple (a_cons (e_var (pv 0)) (a_cons e_int (a_cons e_int a_nil))))))
    (b_one (s_retE (ps_ret e_bl)))
    b_nil)
    (b_cons (s_setT (gd_tup (gds_cons (gd_name (i := 1)) (gds_cons (gd_name (i := 2)) (gds_cons (gd_name (i := 3)) gds_nil))) rfl) (ps_asg (e_var (pv 0)) (pg_tup rfl (pgs_cons (pg_name (i := 1) sc_is_recipe.nd rfl (Or.inl rfl)) (pgs_cons (pg_name (i := 2) sc_is_recipe.nd rfl (Or.inl rfl)) (pgs_cons (pg_name (i := 3) sc_is_recipe.nd rfl (Or.inl rfl)) pgs_nil))))))
    (b_one (s_retE (ps_ret (e_and (e_call G_are_things (hr.mono (by decide)) (by rfl) T.g_are_things T.F_are_things.kp T.b_are_things (a_cons (e_var (pv 1)) a_nil)) (e_and (e_call G_are_steps hr (by rfl) T.g_are_steps T.F_are_steps.kp T.b_are_steps (a_cons (e_var (pv 2)) (a_cons (e_len (pe_callB call_lenA (by rfl) T.z_len PySem.boot_len (a_cons (e_var (pv 1)) a_nil))) a_nil))) (pe_one (e_call G_is_made (hr.mono (by decide)) (by rfl) T.g_is_made T.F_is_made.kp T.b_is_made (a_cons (e_var (pv 3)) (a_cons (e_len (pe_callB call_lenA (by rfl) T.z_len PySem.boot_len (a_cons (e_var (pv 2)) a_nil))) a_nil)))))))))))
  exact h
end
def b_some_thing : FS :=
    (sSeq (sAsg 2 (fCall 3 F_pick (faCons (fVar 0) (faCons (fVar 1) (faCons (fTup (faCons (fTup (faCons (fC (.str "a")) (faCons (fC (.str "b")) faNil))) (faCons (fTup (faCons (fC (.str "")) (faCons (fC (.str "x")) faNil))) (faCons (fTup (faCons (fC (.str "ab")) (faCons (fC (.str "ba")) faNil))) (faCons (fTup (faCons (fC (.str "")) (faCons (fC (.str "a")) (faCons (fC (.str "aab")) faNil)))) (faCons (fTup (faCons (fC (.str "c")) faNil)) (faCons (fTup (faCons (fC (.str "b")) (faCons (fC (.str "ca")) (faCons (fC (.str "cb")) faNil)))) faNil))))))) faNil)))))
    (sFrz [2] (sRet (fIf (bT (fOp2 (seeB (ordD .Gt)) (fCall 3 F_draw (faCons (fVar 0) (faCons (fVar 1) (faCons (fC (.int 4)) faNil)))) (fC (.int 0)))) (fVar 2) (fSl (fVar 2) oNone (oSome (fC (.int 2))))))))
def F_some_thing : FF := runF 3 2 b_some_thing
section
variable {P : Program} {w : World} {K : PySem.W.Frag} {mg : Str → Option Value} {base : Heap}
theorem ok_some_thing (T : Tx K mg w) : FnOk P w K mg base CX0 5 T.f__law_some_thing T.d__law_some_thing ["_law_script", "_law_state"] (spF ⟨K, P, w⟩ 2 F_some_thing) := by
  have G_pick := ok_pick (P := P) (base := base) T
  have G_draw := ok_draw (P := P) (base := base) T
  have h : FnOk P w K mg base CX0 5 T.f__law_some_thing T.d__law_some_thing ["_law_script", "_law_state"] (spF ⟨K, P, w⟩ [("_law_script" : Str), ("_law_state" : Str)].length (runF [("_law_script" : Str), ("_law_state" : Str), ("_law_some" : Str)].length [("_law_script" : Str), ("_law_state" : Str)].length b_some_thing)) := fn_pi (body := b_some_thing) T.F__law_some_thing sc_some_thing fun cdv A outer s H E hr =>
    (b_cons (s_set (ps_set (i := 2) sc_some_thing.nd rfl (Or.inl rfl) (e_call G_pick hr (by rfl) T.g__law_pick T.F__law_pick.kp T.b__law_pick (a_cons (e_var (pv 0)) (a_cons (e_var (pv 1)) (a_cons (e_tup (a_cons (e_tup (a_cons e_str (a_cons e_str a_nil))) (a_cons (e_tup (a_cons e_str (a_cons e_str a_nil))) (a_cons (e_tup (a_cons e_str (a_cons e_str a_nil))) (a_cons (e_tup (a_cons e_str (a_cons e_str (a_cons e_str a_nil)))) (a_cons (e_tup (a_cons e_str a_nil)) (a_cons (e_tup (a_cons e_str (a_cons e_str (a_cons e_str a_nil)))) a_nil))))))) a_nil))))))
    (b_one (s_frz (is := [2]) (s_retE (ps_ret (e_if (t_cmp (op_ord (.inr (.inl rfl)) hr.units) (RDs.do rd_ord) (e_call G_draw (hr.mono (by decide)) (by rfl) T.g__law_draw T.F__law_draw.kp T.b__law_draw (a_cons (e_var (pv 0)) (a_cons (e_var (pv 1)) (a_cons e_int a_nil)))) e_int (nomark _)) (e_var (pv 2)) (e_sl (e_var (pv 2)) o_none (o_some e_int))))))))
  exact h
end
def b_some_step : FS :=
    (sSeq (sAsg 4 (fTup (faCons (fC (.str "join")) (faCons (fC (.str "join")) (faCons (fC (.str "less")) (faCons (fC (.str "same")) (faCons (fC (.str "pick")) (faCons (fC (.str "sort")) (faCons (fC (.str "turn")) (faCons (fC (.str "first")) (faCons (fC (.str "rest")) faNil)))))))))))
    (sSeq (sPar 5 6 (fCall 3 F_pick (faCons (fVar 0) (faCons (fVar 1) (faCons (fVar 4) faNil)))) (fLst faNil))
    (sSeq (sFor (itRng1 (faCons (fGetLit [("join", 2), ("less", 2), ("same", 2), ("pick", 3)] (fVar 5) (fC (.int 1))) faNil)) (tgN 7) [7]
    (sIf (tOrF (bT (fOp2 (seeB (eqD false)) (fVar 3) (fC (.int 0)))) (bT (fOp2 (seeB (ordD .Lt)) (fCall 3 F_draw (faCons (fVar 0) (faCons (fVar 1) (faCons (fC (.int 5)) faNil)))) (fC (.int 3)))))
    (sApp 6 (fTup (faCons (fC (.str "thing")) (faCons (fCall 3 F_draw (faCons (fVar 0) (faCons (fVar 1) (faCons (fVar 2) faNil)))) faNil))))
    (sApp 6 (fTup (faCons (fC (.str "step")) (faCons (fCall 3 F_draw (faCons (fVar 0) (faCons (fVar 1) (faCons (fVar 3) faNil)))) faNil))))))
    (sFrz [5, 6] (sRet (fTup (faCons (fVar 5) (faCons (fBi (see1 tupG) (faCons (fVar 6) faNil)) faNil))))))))
def F_some_step : FF := runF 8 4 b_some_step
section
variable {P : Program} {w : World} {K : PySem.W.Frag} {mg : Str → Option Value} {base : Heap}
theorem ok_some_step (T : Tx K mg w) : FnOk P w K mg base CX0 5 T.f__law_some_step T.d__law_some_step ["_law_script", "_law_state", "_law_things", "_law_count"] (spF ⟨K, P, w⟩ 4 F_some_step) := by
  have G_pick := ok_pick (P := P) (base := base) T
  have G_draw := ok_draw (P := P) (base := base) T
  have h : FnOk P w K mg base CX0 5 T.f__law_some_step T.d__law_some_step ["_law_script", "_law_state", "_law_things", "_law_count"] (spF ⟨K, P, w⟩ [("_law_script" : Str), ("_law_state" : Str), ("_law_things" : Str), ("_law_count" : Str)].length (runF [("_law_script" : Str), ("_law_state" : Str), ("_law_things" : Str), ("_law_count" : Str), ("_law_names" : Str), ("_law_name" : Str), ("_law_reads" : Str), ("_law_again" : Str)].length [("_law_script" : Str), ("_law_state" : Str), ("_law_things" : Str), ("_law_count" : Str)].length b_some_step)) := fn_pi (body := b_some_step) T.F__law_some_step sc_some_step fun cdv A outer s H E hr =>
    (b_cons (s_set (ps_set (i := 4) sc_some_step.nd rfl (Or.inl rfl) (e_tup (a_cons e_str (a_cons e_str (a_cons e_str (a_cons e_str (a_cons e_str (a_cons e_str (a_cons e_str (a_cons e_str (a_cons e_str a_nil))))))))))))
    (b_cons (s_par2 (ps_par (i := 5) (j := 6) (by rfl) sc_some_step.nd rfl rfl (by decide) rfl rfl (pa_cons (e_call G_pick hr (by rfl) T.g__law_pick T.F__law_pick.kp T.b__law_pick (a_cons (e_var (pv 0)) (a_cons (e_var (pv 1)) (a_cons (e_var (pv 4)) a_nil)))) (pa_cons (e_lst a_nil) pa_nil)) (by rfl)))
    (b_cons (s_for (wp := [7]) (gd_name (i := 7)) (ps_for PassesOwn.never rfl (i_rng1 (pi_range1 (by rfl) T.z_range (a_cons (e_getLit (m := [("join", 2), ("less", 2), ("same", 2), ("pick", 3)]) (pe_dget2 (hu_of hr) (pe_disp (pps_cons pe_str pe_int (pps_cons pe_str pe_int (pps_cons pe_str pe_int (pps_cons pe_str pe_int pps_nil)))) (by rfl) (by rfl) (fun z => by cases z) (by decide)) (e_var (pv 5)) e_int ⟨rfl, rfl, rfl, rfl⟩)) a_nil))) (pg_name (i := 7) sc_some_step.nd rfl (Or.inl rfl))
    (b_one (s_ite (PW.pt (w_or (t_cmp (op_eqA hr.units) (RDs.do rd_eqD') (e_var (pv 3)) e_int (nomark _)) (pw_or1 (t_cmp (op_ord (.inl rfl) hr.units) (RDs.do rd_ord) (e_call G_draw (hr.mono (by decide)) (by rfl) T.g__law_draw T.F__law_draw.kp T.b__law_draw (a_cons (e_var (pv 0)) (a_cons (e_var (pv 1)) (a_cons e_int a_nil)))) e_int (nomark _)))))
    (b_one (s_app (ps_expr (pe_bm PySem.F.plainAttrs_list PySem.F.slot_list_append PySem.F.type_list_append mt_append (pv 6) (pa_cons (e_tup (a_cons e_str (a_cons (e_call G_draw (hr.mono (by decide)) (by rfl) T.g__law_draw T.F__law_draw.kp T.b__law_draw (a_cons (e_var (pv 0)) (a_cons (e_var (pv 1)) (a_cons (e_var (pv 2)) a_nil)))) a_nil))) pa_nil)))))
    (b_one (s_app (ps_expr (pe_bm PySem.F.plainAttrs_list PySem.F.slot_list_append PySem.F.type_list_append mt_append (pv 6) (pa_cons (e_tup (a_cons e_str (a_cons (e_call G_draw (hr.mono (by decide)) (by rfl) T.g__law_draw T.F__law_draw.kp T.b__law_draw (a_cons (e_var (pv 0)) (a_cons (e_var (pv 1)) (a_cons (e_var (pv 3)) a_nil)))) a_nil))) pa_nil)))))))))
    (b_one (s_frz (is := [5, 6]) (s_retE (ps_ret (e_tup (a_cons (e_var (pv 5)) (a_cons (e_ty call_tuple_of cd_tup (by rfl) T.z_tuple (by decide +kernel) (a_cons (e_var (pv 6)) a_nil)) a_nil))))))))))
  exact h
end
def b_check_recipe : FS :=
    (sIf (tNotF (bT (fCall 1 F_is_recipe (faCons (fVar 0) faNil))))
    sNever
    sNx)
def F_check_recipe : FF := runF 1 1 b_check_recipe
section
variable {P : Program} {w : World} {K : PySem.W.Frag} {mg : Str → Option Value} {base : Heap}
theorem ok_check_recipe (T : Tx K mg w) : FnOk P w K mg base CX0 6 T.f_check_recipe T.d_check_recipe ["value"] (spF ⟨K, P, w⟩ 1 F_check_recipe) := by
  have G_is_recipe := ok_is_recipe (P := P) (base := base) T
  have h : FnOk P w K mg base CX0 6 T.f_check_recipe T.d_check_recipe ["value"] (spF ⟨K, P, w⟩ [("value" : Str)].length (runF [("value" : Str)].length [("value" : Str)].length b_check_recipe)) := fn_pi (body := b_check_recipe) T.F_check_recipe sc_check_recipe fun cdv A outer s H E hr =>
    (b_one (s_ite (t_not (t_val (e_call G_is_recipe hr (by rfl) T.g_is_recipe T.F_is_recipe.kp T.b_is_recipe (a_cons (e_var (pv 0)) a_nil))))
    (b_one s_never)
    b_nil))
  exact h
end
def b_some_recipe : FS :=
    (sSeq (sAsg 3 (fBi (see1 tupG) (faCons (fLc (itRng1 (faCons (fOp2 addL (fC (.int 1)) (fCall 3 F_draw (faCons (fVar 0) (faCons (fVar 1) (faCons (fC (.int 3)) faNil))))) faNil)) (tgN 2) [2] tT (fCall 2 F_some_thing (faCons (fVar 0) (faCons (fVar 1) faNil)))) faNil)))
    (sSeq (sAsg 4 (fLst faNil))
    (sSeq (sFor (itRng1 (faCons (fOp2 addL (fC (.int 1)) (fCall 3 F_draw (faCons (fVar 0) (faCons (fVar 1) (faCons (fC (.int 5)) faNil))))) faNil)) (tgN 2) [2]
    (sApp 4 (fCall 4 F_some_step (faCons (fVar 0) (faCons (fVar 1) (faCons (lenS (faCons (fVar 3) faNil)) (faCons (lenS (faCons (fVar 4) faNil)) faNil)))))))
    (sSeq (sAsg 5 (fCall 4 F_some_of (faCons (fVar 0) (faCons (fVar 1) (faCons (fListRg (lenS (faCons (fVar 4) faNil))) (faCons (fCall 3 F_draw (faCons (fVar 0) (faCons (fVar 1) (faCons (fC (.int 2)) faNil)))) faNil))))))
    (sFrz [3, 4, 5] (sRet (fTup (faCons (fVar 3) (faCons (fBi (see1 tupG) (faCons (fVar 4) faNil)) (faCons (fBi (see1 tupG) (faCons (fSortI (faCons (fOp2 addL (fVar 5) (fTup (faCons (fOp2 (seeB subD) (lenS (faCons (fVar 4) faNil)) (fC (.int 1))) faNil))) faNil)) faNil)) faNil))))))))))
def F_some_recipe : FF := runF 6 2 b_some_recipe
section
variable {P : Program} {w : World} {K : PySem.W.Frag} {mg : Str → Option Value} {base : Heap}
theorem ok_some_recipe (T : Tx K mg w) : FnOk P w K mg base CX0 6 T.f__law_some_recipe T.d__law_some_recipe ["_law_script", "_law_state"] (spF ⟨K, P, w⟩ 2 F_some_recipe) := by
  have G_draw := ok_draw (P := P) (base := base) T
  have G_some_thing := ok_some_thing (P := P) (base := base) T
  have G_some_step := ok_some_step (P := P) (base := base) T
  have G_some_of := ok_some_of (P := P) (base := base) T
  have h : FnOk P w K mg base CX0 6 T.f__law_some_recipe T.d__law_some_recipe ["_law_script", "_law_state"] (spF ⟨K, P, w⟩ [("_law_script" : Str), ("_law_state" : Str)].length (runF [("_law_script" : Str), ("_law_state" : Str), ("_law_again" : Str), ("_law_things" : Str), ("_law_steps" : Str), ("_law_made" : Str)].length [("_law_script" : Str), ("_law_state" : Str)].length b_some_recipe)) := fn_pi (body := b_some_recipe) T.F__law_some_recipe sc_some_recipe fun cdv A outer s H E hr =>
    (b_cons (s_set (ps_set (i := 3) sc_some_recipe.nd rfl (Or.inl rfl) (e_ty call_tuple_of cd_tup (by rfl) T.z_tuple (by decide +kernel) (a_cons (e_lc (gd_name (i := 2)) (by decide) (pe_lc (own := [("_law_again", 2)]) rfl sc_some_recipe.nd (i_rng1 (pi_range1 (by rfl) T.z_range (a_cons (e_op op_addA rd_add2 e_int (e_call G_draw (hr.mono (by decide)) (by rfl) T.g__law_draw T.F__law_draw.kp T.b__law_draw (a_cons (e_var (pv 0)) (a_cons (e_var (pv 1)) (a_cons e_int a_nil))))) a_nil))) (blkOk_by (own := [("_law_again", 2)]) (N := ["_law_script", "_law_state", "_law_again", "_law_things", "_law_steps", "_law_made"]) (sc := defScope s_some_recipe) (by decide +kernel)) (fun _ _ _ _ _ => (pg_name (i := 2) sc_some_recipe.nd rfl (Or.inl rfl))) (fun _ _ _ _ _ => pts_yes) (fun _ _ _ _ _ => (e_call G_some_thing hr (by rfl) T.g__law_some_thing T.F__law_some_thing.kp T.b__law_some_thing (a_cons (e_var (pv 0)) (a_cons (e_var (pv 1)) a_nil)))))) a_nil))))
    (b_cons (s_set (ps_set (i := 4) sc_some_recipe.nd rfl (Or.inl rfl) (e_lst a_nil)))
    (b_cons (s_for (wp := [2]) (gd_name (i := 2)) (ps_for PassesOwn.never rfl (i_rng1 (pi_range1 (by rfl) T.z_range (a_cons (e_op op_addA rd_add2 e_int (e_call G_draw (hr.mono (by decide)) (by rfl) T.g__law_draw T.F__law_draw.kp T.b__law_draw (a_cons (e_var (pv 0)) (a_cons (e_var (pv 1)) (a_cons e_int a_nil))))) a_nil))) (pg_name (i := 2) sc_some_recipe.nd rfl (Or.inl rfl))
    (b_one (s_app (ps_expr (pe_bm PySem.F.plainAttrs_list PySem.F.slot_list_append PySem.F.type_list_append mt_append (pv 4) (pa_cons (e_call G_some_step hr (by rfl) T.g__law_some_step T.F__law_some_step.kp T.b__law_some_step (a_cons (e_var (pv 0)) (a_cons (e_var (pv 1)) (a_cons (e_len (pe_callB call_lenA (by rfl) T.z_len PySem.boot_len (a_cons (e_var (pv 3)) a_nil))) (a_cons (e_len (pe_callB call_lenA (by rfl) T.z_len PySem.boot_len (a_cons (e_var (pv 4)) a_nil))) a_nil))))) pa_nil)))))))
    (b_cons (s_set (ps_set (i := 5) sc_some_recipe.nd rfl (Or.inl rfl) (e_call G_some_of (hr.mono (by decide)) (by rfl) T.g__law_some_of T.F__law_some_of.kp T.b__law_some_of (a_cons (e_var (pv 0)) (a_cons (e_var (pv 1)) (a_cons (e_listRg (pe_listRg rfl (by rfl) T.z_list (prg_1 (by rfl) T.z_range (e_len (pe_callB call_lenA (by rfl) T.z_len PySem.boot_len (a_cons (e_var (pv 4)) a_nil)))))) (a_cons (e_call G_draw (hr.mono (by decide)) (by rfl) T.g__law_draw T.F__law_draw.kp T.b__law_draw (a_cons (e_var (pv 0)) (a_cons (e_var (pv 1)) (a_cons e_int a_nil)))) a_nil)))))))
    (b_one (s_frz (is := [3, 4, 5]) (s_retE (ps_ret (e_tup (a_cons (e_var (pv 3)) (a_cons (e_ty call_tuple_of cd_tup (by rfl) T.z_tuple (by decide +kernel) (a_cons (e_var (pv 4)) a_nil)) (a_cons (e_ty call_tuple_of cd_tup (by rfl) T.z_tuple (by decide +kernel) (a_cons (e_sortI (pe_callB (cr_sortedSet rfl) (by rfl) T.z_sorted (by decide +kernel) (pa_cons (pe_callTy (cr_setTupI rfl) (by rfl) T.z_set (by decide +kernel) (a_cons (e_op op_addA rd_add2 (e_var (pv 5)) (e_tup (a_cons (e_op op_sub (RDs.do rd_subD) (e_len (pe_callB call_lenA (by rfl) T.z_len PySem.boot_len (a_cons (e_var (pv 4)) a_nil))) e_int) a_nil))) a_nil)) pa_nil))) a_nil)) a_nil))))))))))))
  exact h
end
def b_is_order : FS :=
    (sSeq (sDrop (fCall 1 F_check_recipe (faCons (fVar 0) faNil)))
    (sSeq (sAsg 2 (lenS (faCons (fOp2 (seeB ixD) (fVar 0) (fC (.int 1))) faNil)))
    (sSeq (sIf (tNotF (bT (fCall 3 F_is_tuple (faCons (fVar 1) (faCons (fVar 2) (faCons (fVar 2) faNil))))))
    (sRet (fC (.bool false)))
    sNx)
    (sSeq (sFor (itTake (fVar 1)) (tgN 3) [3]
    (sIf (tNotF (bT (fCall 3 F_is_number (faCons (fVar 3) (faCons (fC (.int 0)) (faCons (fOp2 (seeB subD) (fVar 2) (fC (.int 1))) faNil))))))
    (sRet (fC (.bool false)))
    sNx))
    (sRet (fCall 2 F_is_order_of (faCons (fVar 0) (faCons (fVar 1) faNil))))))))
def F_is_order : FF := runF 4 2 b_is_order
section
variable {P : Program} {w : World} {K : PySem.W.Frag} {mg : Str → Option Value} {base : Heap}
theorem ok_is_order (T : Tx K mg w) : FnOk P w K mg base CX0 7 T.f_is_order T.d_is_order ["recipe", "value"] (spF ⟨K, P, w⟩ 2 F_is_order) := by
  have G_check_recipe := ok_check_recipe (P := P) (base := base) T
  have G_is_tuple := ok_is_tuple (P := P) (base := base) T
  have G_is_number := ok_is_number (P := P) (base := base) T
  have G_is_order_of := ok_is_order_of (P := P) (base := base) T
  have h : FnOk P w K mg base CX0 7 T.f_is_order T.d_is_order ["recipe", "value"] (spF ⟨K, P, w⟩ [("recipe" : Str), ("value" : Str)].length (runF [("recipe" : Str), ("value" : Str), ("many" : Str), ("step" : Str)].length [("recipe" : Str), ("value" : Str)].length b_is_order)) := fn_pi (body := b_is_order) T.F_is_order sc_is_order fun cdv A outer s H E hr =>
    (b_cons (s_drop (ps_expr (e_call G_check_recipe hr (by rfl) T.g_check_recipe T.F_check_recipe.kp T.b_check_recipe (a_cons (e_var (pv 0)) a_nil))))
    (b_cons (s_set (ps_set (i := 2) sc_is_order.nd rfl (Or.inl rfl) (e_len (pe_callB call_lenA (by rfl) T.z_len PySem.boot_len (a_cons (e_ix ix_seq (RDs.do rd_ixD) (e_var (pv 0)) e_int (fun _ _ => rfl)) a_nil)))))
    (b_cons (s_ite (t_not (t_val (e_call G_is_tuple (hr.mono (by decide)) (by rfl) T.g_is_tuple T.F_is_tuple.kp T.b_is_tuple (a_cons (e_var (pv 1)) (a_cons (e_var (pv 2)) (a_cons (e_var (pv 2)) a_nil))))))
    (b_one (s_retE (ps_ret e_bl)))
    b_nil)
    (b_cons (s_for (wp := [3]) (gd_name (i := 3)) (ps_for PassesOwn.never rfl (i_for (e_var (pv 1))) (pg_name (i := 3) sc_is_order.nd rfl (Or.inl rfl))
    (b_one (s_ite (t_not (t_val (e_call G_is_number (hr.mono (by decide)) (by rfl) T.g_is_number T.F_is_number.kp T.b_is_number (a_cons (e_var (pv 3)) (a_cons e_int (a_cons (e_op op_sub (RDs.do rd_subD) (e_var (pv 2)) e_int) a_nil))))))
    (b_one (s_retE (ps_ret e_bl)))
    b_nil))))
    (b_one (s_retE (ps_ret (e_call G_is_order_of (hr.mono (by decide)) (by rfl) T.g_is_order_of T.F_is_order_of.kp T.b_is_order_of (a_cons (e_var (pv 0)) (a_cons (e_var (pv 1)) a_nil))))))))))
  exact h
end
def b_count_orders : FS :=
    (sSeq (sDrop (fCall 1 F_check_recipe (faCons (fVar 0) faNil)))
    (sSeq (sAsg 1 (fCall 1 F_steps_read (faCons (fVar 0) faNil)))
    (sSeq (sAsg 2 (fOneT (fTup faNil) (fC (.int 1))))
    (sSeq (sFor (itTake (fOp2 (seeB ixD) (fVar 0) (fC (.int 1)))) (tgN 3) [3, 4, 5, 6, 7, 8]
    (sSeq (sAsg 4 fNewT)
    (sSeq (sFrz [2] (sFor (itItems (fVar 2)) (tgT [(tgN 5), (tgN 6)]) [5, 6, 7, 8]
    (sFrz [1] (sFor (itTake (fCall 2 F_free_steps (faCons (fVar 1) (faCons (fVar 5) faNil)))) (tgN 7) [7, 8]
    (sSeq (sAsg 8 (fBi (see1 tupG) (faCons (fBi (see1 sortG) (faCons (fOp2 addL (fVar 5) (fTup (faCons (fVar 7) faNil))) faNil)) faNil)))
    (sFrz [8] (sPutT 4 (fVar 8) (fOp2 addL (fGetT 4 (fVar 8) (fC (.int 0))) (fVar 6)))))))))
    (sFrz [4] (sAsg 2 (fVar 4))))))
    (sFrz [2] (sRet (fBi (see1 sumG) (faCons (fListVs (fVar 2)) faNil))))))))
def F_count_orders : FF := runF 9 1 b_count_orders
section
variable {P : Program} {w : World} {K : PySem.W.Frag} {mg : Str → Option Value} {base : Heap}
theorem ok_count_orders (T : Tx K mg w) : FnOk P w K mg base CX0 7 T.f_count_orders T.d_count_orders ["recipe"] (spF ⟨K, P, w⟩ 1 F_count_orders) := by
  have G_check_recipe := ok_check_recipe (P := P) (base := base) T
  have G_steps_read := ok_steps_read (P := P) (base := base) T
  have G_free_steps := ok_free_steps (P := P) (base := base) T
  have h : FnOk P w K mg base CX0 7 T.f_count_orders T.d_count_orders ["recipe"] (spF ⟨K, P, w⟩ [("recipe" : Str)].length (runF [("recipe" : Str), ("read" : Str), ("counts" : Str), ("_" : Str), ("longer" : Str), ("done" : Str), ("many" : Str), ("step" : Str), ("behind" : Str)].length [("recipe" : Str)].length b_count_orders)) := fn_pi (body := b_count_orders) T.F_count_orders sc_count_orders fun cdv A outer s H E hr =>
    (b_cons (s_drop (ps_expr (e_call G_check_recipe hr (by rfl) T.g_check_recipe T.F_check_recipe.kp T.b_check_recipe (a_cons (e_var (pv 0)) a_nil))))
    (b_cons (s_set (ps_set (i := 1) sc_count_orders.nd rfl (Or.inl rfl) (e_call G_steps_read (hr.mono (by decide)) (by rfl) T.g_steps_read T.F_steps_read.kp T.b_steps_read (a_cons (e_var (pv 0)) a_nil))))
    (b_cons (s_set (ps_set (i := 2) sc_count_orders.nd rfl (Or.inl rfl) (e_oneT (pe_oneT hr.units (e_tup a_nil) e_int))))
    (b_cons (s_for (wp := [3, 4, 5, 6, 7, 8]) (gd_name (i := 3)) (ps_for PassesOwn.never rfl (i_for (e_ix ix_seq (RDs.do rd_ixD) (e_var (pv 0)) e_int (fun _ _ => rfl))) (pg_name (i := 3) sc_count_orders.nd rfl (Or.inl rfl))
    (b_cons (s_set (ps_set (i := 4) sc_count_orders.nd rfl (Or.inl rfl) (e_newT pe_newT)))
    (b_cons (s_frz (is := [2]) (s_for (wp := [5, 6, 7, 8]) (gd_tup (gds_cons (gd_name (i := 5)) (gds_cons (gd_name (i := 6)) gds_nil)) rfl) (ps_for PassesOwn.never rfl (i_items (pi_itemsT (e_var (pv 2)))) (pg_tup rfl (pgs_cons (pg_name (i := 5) sc_count_orders.nd rfl (Or.inl rfl)) (pgs_cons (pg_name (i := 6) sc_count_orders.nd rfl (Or.inl rfl)) pgs_nil)))
    (b_one (s_frz (is := [1]) (s_for (wp := [7, 8]) (gd_name (i := 7)) (ps_for PassesOwn.never rfl (i_for (e_call G_free_steps (hr.mono (by decide)) (by rfl) T.g_free_steps T.F_free_steps.kp T.b_free_steps (a_cons (e_var (pv 1)) (a_cons (e_var (pv 5)) a_nil)))) (pg_name (i := 7) sc_count_orders.nd rfl (Or.inl rfl))
    (b_cons (s_set (ps_set (i := 8) sc_count_orders.nd rfl (Or.inl rfl) (e_ty call_tuple_of cd_tup (by rfl) T.z_tuple (by decide +kernel) (a_cons (e_bi (cr_sortAll rfl hr.units) cd_sortAll (by rfl) T.z_sorted (by decide +kernel) (a_cons (e_op op_addA rd_add2 (e_var (pv 5)) (e_tup (a_cons (e_var (pv 7)) a_nil))) a_nil)) a_nil))))
    (b_one (s_frz (is := [8]) (s_putT (ps_tput hr.units (pv 4) (e_var (pv 8)) (e_op op_addA rd_add2 (e_getDT (pe_mG ty_D PySem.F.plainAttrs_dict PySem.F.slot_dict_get PySem.F.type_dict_get (mt_getDT hr.units) (pv 4) (pa_cons (e_var (pv 8)) (pa_cons e_int pa_nil)))) (e_var (pv 6))) (by rfl)))))))))))))
    (b_one (s_frz (is := [4]) (s_set (ps_set (i := 2) sc_count_orders.nd rfl (Or.inl rfl) (e_var (pv 4))))))))))
    (b_one (s_frz (is := [2]) (s_retE (ps_ret (e_bi (cr_sum rfl) cd_sum (by rfl) T.z_sum (by decide +kernel) (a_cons (e_listVs (pe_callTy (cr_listVs rfl) (by rfl) T.z_list (by decide +kernel) (pa_cons (pe_mG0 ty_D PySem.F.plainAttrs_dict PySem.F.slot_dict_values PySem.F.type_dict_values mt_valuesV (e_var (pv 2))) pa_nil))) a_nil))))))))))
  exact h
end
def b_rows (self : FF) : FS :=
    (sSeq (sIf (bT (fOp2 (seeB (eqD false)) (fVar 0) (fLst faNil)))
    (sRet (fXOne 1))
    sNx)
    (sSeq (sAsg 2 fXNew)
    (sSeq (sFor (itRng1 (faCons (lenS (faCons (fVar 0) faNil)) faNil)) (tgN 3) [3]
    (sXExt 2 (fCall 2 self (faCons (fOp2 addL (fSl (fVar 0) oNone (oSome (fVar 3))) (fSl (fVar 0) (oSome (fOp2 addL (fVar 3) (fC (.int 1)))) oNone)) (faCons (fXCat 1 (fOp2 (seeB ixD) (fVar 0) (fVar 3))) faNil)))))
    (sXRet 2))))
def F_rowsN : Nat → FF
  | 0 => fun _ _ => none
  | j + 1 => runF 4 2 (b_rows (F_rowsN j))
def F_rows : FF := F_rowsN 8
section
variable {P : Program} {w : World} {K : PySem.W.Frag} {mg : Str → Option Value} {base : Heap}
theorem ok_rowsN (T : Tx K mg w) : ∀ j : Nat, FnOk P w K mg base CX0 (1 + j) T.f__law_rows T.d__law_rows ["_law_left", "_law_row"] (spF ⟨K, P, w⟩ 2 (F_rowsN j))
  | 0 => ⟨fun vs H Q E h => h.1, fun A outer s H args us vs Q E hr he hb hv hs => by
      obtain ⟨_, st, n, I, as, w1, ra, sv, n', q, k⟩ := hs
      cases q⟩
  | j + 1 => by
    have G_self := ok_rowsN T j
    have h : FnOk P w K mg base CX0 (1 + j + 1) T.f__law_rows T.d__law_rows ["_law_left", "_law_row"] (spF ⟨K, P, w⟩ [("_law_left" : Str), ("_law_row" : Str)].length (runF [("_law_left" : Str), ("_law_row" : Str), ("_law_found" : Str), ("_law_at" : Str)].length [("_law_left" : Str), ("_law_row" : Str)].length (b_rows (F_rowsN j)))) := fn_pi (body := b_rows (F_rowsN j)) T.F__law_rows sc_rows fun cdv A outer s H E hr =>
      (b_cons (s_ite (t_cmp (op_eqA hr.units) (RDs.do rd_eqD') (e_var (pv 0)) (e_lst a_nil) (nomark _))
    (b_one (s_retE (ps_ret (e_xone (pe_lst (pa_cons (pv 1) pa_nil))))))
    b_nil)
    (b_cons (s_set (ps_set (i := 2) sc_rows.nd rfl (Or.inl rfl) (e_xnew (pe_lst pa_nil))))
    (b_cons (s_for (wp := [3]) (gd_name (i := 3)) (ps_for PassesOwn.never rfl (i_rng1 (pi_range1 (by rfl) T.z_range (a_cons (e_len (pe_callB call_lenA (by rfl) T.z_len PySem.boot_len (a_cons (e_var (pv 0)) a_nil))) a_nil))) (pg_name (i := 3) sc_rows.nd rfl (Or.inl rfl))
    (b_one (s_xext (ps_expr (pe_bm PySem.F.plainAttrs_list PySem.F.slot_list_extend PySem.F.type_list_extend mt_extend (pv 2) (pa_cons (e_call G_self hr (by rfl) T.g__law_rows T.F__law_rows.kp T.b__law_rows (a_cons (e_op op_addA rd_add2 (e_sl (e_var (pv 0)) o_none (o_some (e_var (pv 3)))) (e_sl (e_var (pv 0)) (o_some (e_op op_addA rd_add2 (e_var (pv 3)) e_int)) o_none)) (a_cons (e_xcat (pe_op op_catX (pv 1) (pe_tupX (pa_cons (e_ix ix_seq (RDs.do rd_ixD) (e_var (pv 0)) (e_var (pv 3)) (fun _ _ => rfl)) pa_nil)))) a_nil))) pa_nil)))))))
    (b_one (s_xret (ps_ret (pv 2)))))))
    exact h
theorem ok_rows (T : Tx K mg w) : FnOk P w K mg base CX0 9 T.f__law_rows T.d__law_rows ["_law_left", "_law_row"] (spF ⟨K, P, w⟩ 2 F_rows) := ok_rowsN T 8
end
def b_law : FS :=
    (sSeq (sAsg 2 (fCall 2 F_some_recipe (faCons (fVar 0) (faCons (fVar 1) faNil))))
    (sSeq (sPar 3 4 (fOp2 (seeB ixD) (fVar 2) (fC (.int 1))) (fC (.int 0)))
    (sSeq (sForX 5 [5, 6, 7, 8, 9, 10] (fCall 2 F_rows (faCons (fListRg (lenS (faCons (fVar 3) faNil))) (faCons (fTup faNil) faNil)))
    (sSeq (sAsg 6 (fC (.bool true)))
    (sSeq (sFrz [3] (sFor (itEnum (faCons (fVar 3) faNil)) (tgT [(tgN 7), (tgN 8)]) [7, 8, 9, 10]
    (sFor (itTake (fOp2 (seeB ixD) (fVar 8) (fC (.int 1)))) (tgT [(tgN 9), (tgN 10)]) [9, 10]
    (sAsg 6 (fAnd (fVar 6) (fOr (fOp2 (seeB (eqD false)) (fVar 9) (fC (.str "thing"))) (fOp2 (seeB (ordD .Lt)) (fXIx 5 (fVar 10)) (fXIx 5 (fVar 7)))))))))
    (sSeq (sIf (tNotF (bT (fCall 2 F_same_truth (faCons (fCall 2 F_is_order (faCons (fVar 2) (faCons (fXD 5) faNil))) (faCons (fVar 6) faNil)))))
    (sRet (fC (.bool false)))
    sNx)
    (sAug 4 (fIf (bT (fVar 6)) (fC (.int 1)) (fC (.int 0))))))))
    (sSeq (sAsg 11 (fTupRg1 (lenS (faCons (fVar 3) faNil))))
    (sSeq (sAsg 12 (fLst (faCons (fBi (see1 lstG) (faCons (fVar 11) faNil)) (faCons (fSl (fVar 11) oNone (oSome (fNeg (fC (.int 1))))) (faCons (fOp2 addL (fVar 11) (fTup (faCons (fC (.int 0)) faNil))) (faCons (fC .none) (faCons (fOp2 addL (fTup (faCons (fNeg (fC (.int 1))) faNil)) (fSl (fVar 11) (oSome (fC (.int 1))) oNone)) (faCons (fOp2 addL (fSl (fVar 11) oNone (oSome (fNeg (fC (.int 1))))) (fTup (faCons (lenS (faCons (fVar 3) faNil)) faNil))) faNil))))))))
    (sSeq (sApp 12 (fOp2 (seeB mulD) (fTup (faCons (fC (.bool true)) faNil)) (lenS (faCons (fVar 3) faNil))))
    (sSeq (sIf (tOrF (bT (fBi (see1 anyG) (faCons (fLc (itSee (fVar 12)) (tgN 10) [10] tT (fCall 2 F_is_order (faCons (fVar 2) (faCons (fVar 10) faNil)))) faNil))) (bT (fOp2 (seeB (isNoneD true)) (fCall 2 F_is_order (faCons (fVar 2) (faCons (fVar 11) faNil))) (fC (.bool true)))))
    (sRet (fC (.bool false)))
    sNx)
    (sFrz [2, 4] (sRet (fOp2 (seeB (eqD false)) (fCall 1 F_count_orders (faCons (fVar 2) faNil)) (fVar 4)))))))))))
def lawE (ns : List Int) : Ev := (argsE 13 1 [.d (scriptD ns)]).set 1 (some .st)
section
variable {P : Program} {w : World} {K : PySem.W.Frag} {mg : Str → Option Value} {base : Heap}
theorem ok_law_of (hm : ∀ ns : List Int, ns.length ≤ 63 → ∃ e' n', b_law (lawE ns) 0 = some (.rt (.d (.bool true)), e', n')) (T : Tx K mg w) : FnOk P w K mg base CX0 10 T.f_law T.d_law ["_law_script"] (spLaw K) := by
  have G_some_recipe := ok_some_recipe (P := P) (base := base) T
  have G_rows := ok_rows (P := P) (base := base) T
  have G_same_truth := ok_same_truth (P := P) (base := base) T
  have G_is_order := ok_is_order (P := P) (base := base) T
  have G_count_orders := ok_count_orders (P := P) (base := base) T
  exact law_pi (body := b_law) (i := 1) T.F_law sc_law (by decide) (by decide) hm fun cdv A outer s H E hr =>
    (pss_cons (ps_set (i := 1) sc_law.nd rfl (Or.inl rfl) (pe_lst pa_nil))
    (b_cons (s_set (ps_set (i := 2) sc_law.nd rfl (Or.inr rfl) (e_call G_some_recipe (hr.mono (by decide)) (by rfl) T.g__law_some_recipe T.F__law_some_recipe.kp T.b__law_some_recipe (a_cons (e_var (pv 0)) (a_cons (e_var (pv 1)) a_nil)))))
    (b_cons (s_par2 (ps_par (i := 3) (j := 4) (by rfl) sc_law.nd rfl rfl (by decide) rfl rfl (pa_cons (e_ix ix_seq (RDs.do rd_ixD) (e_var (pv 2)) e_int (fun _ _ => rfl)) (pa_cons e_int pa_nil)) (by rfl)))
    (b_cons (s_forX (wp := [5, 6, 7, 8, 9, 10]) (ps_for PassesOwn.never rfl (pi_seq (e_call G_rows hr (by rfl) T.g__law_rows T.F__law_rows.kp T.b__law_rows (a_cons (e_listRg (pe_listRg rfl (by rfl) T.z_list (prg_1 (by rfl) T.z_range (e_len (pe_callB call_lenA (by rfl) T.z_len PySem.boot_len (a_cons (e_var (pv 3)) a_nil)))))) (a_cons (e_tup a_nil) a_nil)))) (pg_name (i := 5) sc_law.nd rfl (Or.inl rfl))
    (b_cons (s_set (ps_set (i := 6) sc_law.nd rfl (Or.inl rfl) e_bl))
    (b_cons (s_frz (is := [3]) (s_for (wp := [7, 8, 9, 10]) (gd_tup (gds_cons (gd_name (i := 7)) (gds_cons (gd_name (i := 8)) gds_nil)) rfl) (ps_for PassesOwn.never rfl (i_enum (pi_enum (by rfl) T.z_enumerate (a_cons (e_var (pv 3)) a_nil)) (pi_enumT (by rfl) T.z_enumerate (a_cons (e_var (pv 3)) a_nil))) (pg_tup rfl (pgs_cons (pg_name (i := 7) sc_law.nd rfl (Or.inl rfl)) (pgs_cons (pg_name (i := 8) sc_law.nd rfl (Or.inl rfl)) pgs_nil)))
    (b_one (s_for (wp := [9, 10]) (gd_tup (gds_cons (gd_name (i := 9)) (gds_cons (gd_name (i := 10)) gds_nil)) rfl) (ps_for PassesOwn.never rfl (i_for (e_ix ix_seq (RDs.do rd_ixD) (e_var (pv 8)) e_int (fun _ _ => rfl))) (pg_tup rfl (pgs_cons (pg_name (i := 9) sc_law.nd rfl (Or.inl rfl)) (pgs_cons (pg_name (i := 10) sc_law.nd rfl (Or.inl rfl)) pgs_nil)))
    (b_one (s_set (ps_set (i := 6) sc_law.nd rfl (Or.inl rfl) (e_and (e_var (pv 6)) (pe_one (e_or (e_cmp (op_eqA hr.units) (RDs.do rd_eqD') (e_var (pv 9)) e_str (nomark _)) (pe_one (e_cmp (op_ord (.inl rfl) hr.units) (RDs.do rd_ord) (e_xix (pe_mG ty_X PySem.F.plainAttrs_tuple PySem.F.slot_tuple_index PySem.F.type_tuple_index mt_idxT (pv 5) (pa_cons (e_var (pv 10)) pa_nil))) (e_xix (pe_mG ty_X PySem.F.plainAttrs_tuple PySem.F.slot_tuple_index PySem.F.type_tuple_index mt_idxT (pv 5) (pa_cons (e_var (pv 7)) pa_nil))) (nomark _)))))))))))))))
    (b_cons (s_ite (t_not (t_val (e_call G_same_truth (hr.mono (by decide)) (by rfl) T.g__law_same_truth T.F__law_same_truth.kp T.b__law_same_truth (a_cons (e_call G_is_order (hr.mono (by decide)) (by rfl) T.g_is_order T.F_is_order.kp T.b_is_order (a_cons (e_var (pv 2)) (a_cons (e_xd (pv 5)) a_nil))) (a_cons (e_var (pv 6)) a_nil)))))
    (b_one (s_retE (ps_ret e_bl)))
    b_nil)
    (b_one (s_aug (ps_aug (i := 4) sc_law.nd rfl (Or.inl rfl) (e_if (t_val (e_var (pv 6))) e_int e_int) iop_add))))))))
    (b_cons (s_set (ps_set (i := 11) sc_law.nd rfl (Or.inl rfl) (e_tupRg1 (pe_tupRg rfl (by rfl) T.z_tuple (prg_1 (by rfl) T.z_range (e_len (pe_callB call_lenA (by rfl) T.z_len PySem.boot_len (a_cons (e_var (pv 3)) a_nil))))))))
    (b_cons (s_set (ps_set (i := 12) sc_law.nd rfl (Or.inl rfl) (e_lst (a_cons (e_ty call_list_of cd_lst (by rfl) T.z_list (by decide +kernel) (a_cons (e_var (pv 11)) a_nil)) (a_cons (e_sl (e_var (pv 11)) o_none (o_some (e_neg e_int))) (a_cons (e_op op_addA rd_add2 (e_var (pv 11)) (e_tup (a_cons e_int a_nil))) (a_cons e_non (a_cons (e_op op_addA rd_add2 (e_tup (a_cons (e_neg e_int) a_nil)) (e_sl (e_var (pv 11)) (o_some e_int) o_none)) (a_cons (e_op op_addA rd_add2 (e_sl (e_var (pv 11)) o_none (o_some (e_neg e_int))) (e_tup (a_cons (e_len (pe_callB call_lenA (by rfl) T.z_len PySem.boot_len (a_cons (e_var (pv 3)) a_nil))) a_nil))) a_nil)))))))))
    (b_cons (s_app (ps_expr (pe_bm PySem.F.plainAttrs_list PySem.F.slot_list_append PySem.F.type_list_append mt_append (pv 12) (pa_cons (e_op op_mulA (RDs.do rd_mulD) (e_tup (a_cons e_bl a_nil)) (e_len (pe_callB call_lenA (by rfl) T.z_len PySem.boot_len (a_cons (e_var (pv 3)) a_nil)))) pa_nil))))
    (b_cons (s_ite (PW.pt (w_or (t_val (e_bi (cr_any rfl) cd_anyA (by rfl) T.z_any (by decide +kernel) (a_cons (e_lc (gd_name (i := 10)) (by decide) (pe_lc (own := [("_law_one", 10)]) rfl sc_law.nd (i_lc (e_var (pv 12))) (blkOk_by (own := [("_law_one", 10)]) (N := ["_law_script", "_law_state", "_law_recipe", "_law_steps", "_law_good", "_law_row", "_law_due", "_law_number", "_law_step", "_law_kind", "_law_one", "_law_plain", "_law_bad"]) (sc := defScope s_law) (by decide +kernel)) (fun _ _ _ _ _ => (pg_name (i := 10) sc_law.nd rfl (Or.inl rfl))) (fun _ _ _ _ _ => pts_yes) (fun _ _ _ _ _ => (e_call G_is_order (hr.mono (by decide)) (by rfl) T.g_is_order T.F_is_order.kp T.b_is_order (a_cons (e_var (pv 2)) (a_cons (e_var (pv 10)) a_nil)))))) a_nil))) (pw_or1 (t_cmp op_isNotAll (RDs.do rd_isAll) (e_call G_is_order (hr.mono (by decide)) (by rfl) T.g_is_order T.F_is_order.kp T.b_is_order (a_cons (e_var (pv 2)) (a_cons (e_var (pv 11)) a_nil))) e_bl (nomark _)))))
    (b_one (s_retE (ps_ret e_bl)))
    b_nil)
    (b_one (s_frz (is := [2, 4]) (s_retE (ps_ret (e_cmp (op_eqA hr.units) (RDs.do rd_eqD') (e_call G_count_orders (hr.mono (by decide)) (by rfl) T.g_count_orders T.F_count_orders.kp T.b_count_orders (a_cons (e_var (pv 2)) a_nil)) (e_var (pv 4)) (nomark _))))))))))))))
end
end Sb
namespace Sb
open PySem PySem.Spec PyProof.Rows L2
theorem ordLe_int (i j : Int) : ordD .LtE (.int i) (.int j) = some (.bool (decide (i ≤ j))) := by
  show some (PyData.bool (!PySem.W.dataLt (.int j) (.int i))) = _
  rw [PySem.W.dataLt_int]
  congr 2
  by_cases h : i ≤ j
  · rw [decide_eq_true h, decide_eq_false (by omega)]; rfl
  · rw [decide_eq_false h, decide_eq_true (by omega)]; rfl
theorem ordLt_int (i j : Int) : ordD .Lt (.int i) (.int j) = some (.bool (decide (i < j))) := by
  show some (PyData.bool (PySem.W.dataLt (.int i) (.int j))) = _
  rw [PySem.W.dataLt_int]
theorem ordGt_int (i j : Int) : ordD .Gt (.int i) (.int j) = some (.bool (decide (j < i))) := by
  show some (PyData.bool (PySem.W.dataLt (.int j) (.int i))) = _
  rw [PySem.W.dataLt_int]
theorem ordLt_str (x y : Str) : ordD .Lt (.str x) (.str y) = some (.bool (decide (x.cps.toList < y.cps.toList))) := by
  show some (PyData.bool (PySem.W.dataLt (.str x) (.str y))) = _
  rw [PySem.W.dataLt_str]
theorem ordGt_str (x y : Str) : ordD .Gt (.str x) (.str y) = some (.bool (decide (y.cps.toList < x.cps.toList))) := by
  show some (PyData.bool (PySem.W.dataLt (.str y) (.str x))) = _
  rw [PySem.W.dataLt_str]
/-! ### steps of what is evaluated -/
theorem and_ev {f g : FE} {e n n1 b} (h : f e n = some (.d (.bool b), n1)) : fAnd f g e n = if b = true then g e n1 else some (.d (.bool false), n1) := by
  simp only [fAnd, h]
theorem or_ev {f g : FE} {e n n1 b} (h : f e n = some (.d (.bool b), n1)) : fOr f g e n = if b = true then some (.d (.bool true), n1) else g e n1 := by
  simp only [fOr, h]
theorem seqif {t : FT} {a b rest : FS} {e n n1 c} (h : t e n = some (c, n1)) : sSeq (sIf t a b) rest e n = if c = true then sSeq a rest e n1 else sSeq b rest e n1 := by
  cases c <;> simp [sSeq, sIf, h]
theorem ret_ev {f : FE} {e n x n1} (h : f e n = some (.d x, n1)) : sRet f e n = some (.rt (.d x), e, n1) := by
  simp [sRet, h, Sv.own]
theorem chain_le {fa fb fc : FE} {e n} {a b c : Int} (h1 : fa e n = some (.d (.int a), n)) (h2 : fb e n = some (.d (.int b), n)) (h3 : fc e n = some (.d (.int c), n)) :
    fChain (seeB (ordD .LtE)) (seeB (ordD .LtE)) fa fb fc e n = some (.d (.bool (decide (a ≤ b) && decide (b ≤ c))), n) := by
  simp only [fChain, h1, h2, seeB, Sv.see, ordLe_int]
  cases decide (a ≤ b) <;> simp [h3, seeB, Sv.see, ordLe_int]
theorem run_rt {N np : Nat} {body : FS} {as : List Sv} {n n' v e'} (hl : as.length = np) (h : body (argsE N np as) n = some (.rt v, e', n')) : runF N np body as n = some (v, n') := by
  simp [runF, hl, h]
theorem run_nx {N np : Nat} {body : FS} {as : List Sv} {n n' e'} (hl : as.length = np) (h : body (argsE N np as) n = some (.nx, e', n')) : runF N np body as n = some (.d .none, n') := by
  simp [runF, hl, h]
theorem set_back {e : Ev} {i : Nat} {o : Option Sv} (h : e[i]? = some none) : wipeE (e.set i o) [i] = e := by
  show (e.set i o).set i none = e
  rw [List.set_set]
  apply List.ext_getElem?
  intro j
  by_cases q : i = j
  · subst q
    have hl := (List.getElem?_eq_some_iff.mp h).1
    rw [List.getElem?_set_self hl, h]
  · rw [List.getElem?_set_ne q]
/-- a loop that goes out at the first item for which p is not -/
theorem loop_all {t : FT} {i : Nat} {e : Ev} {n : Nat} {r : PyData} {p : PyData → Bool} (hi : e[i]? = some none) : ∀ {xs : List PyData}, (∀ x ∈ xs, t (e.set i (some (.d x))) n = some (!p x, n)) →
    (xs.all p = true → forL (tgN i) [i] (sIf t (sRet (fC r)) sNx) xs e n = some (.nx, e, n)) ∧ (xs.all p = false → ∃ e', forL (tgN i) [i] (sIf t (sRet (fC r)) sNx) xs e n = some (.rt (.d r), e', n))
  | [], _ => ⟨fun _ => rfl, fun h => by cases h⟩
  | x :: xs, h => by
    have h0 := h x List.mem_cons_self
    have ih := loop_all (r := r) (p := p) hi (xs := xs) fun y hy => h y (List.mem_cons_of_mem _ hy)
    cases hp : p x with
    | true =>
      rw [hp] at h0
      rw [List.all_cons, hp, Bool.true_and]
      have e1 : forL (tgN i) [i] (sIf t (sRet (fC r)) sNx) (x :: xs) e n = forL (tgN i) [i] (sIf t (sRet (fC r)) sNx) xs e n := by
        simp only [forL, tgN, sIf, h0, Bool.not_true, sNx, set_back hi]
      rw [e1]
      exact ih
    | false =>
      rw [hp] at h0
      rw [List.all_cons, hp, Bool.false_and]
      refine ⟨fun z => (nomatch z), fun _ => ⟨e.set i (some (.d x)), ?_⟩⟩
      simp [forL, tgN, sIf, h0, sRet, fC, Sv.own]
/-- .. and then gives an answer -/
theorem for_all {it : FI} {t : FT} {i : Nat} {e : Ev} {n n1 : Nat} {r : PyData} {p : PyData → Bool} {xs : List PyData} {rest : FS} {v : PyData → Prop} (hi : e[i]? = some none) (hit : it e n = some (xs, n1)) (hl : xs.length ≤ big) (h : ∀ x ∈ xs, t (e.set i (some (.d x))) n1 = some (!p x, n1)) :
    (xs.all p = true → sSeq (sFor it (tgN i) [i] (sIf t (sRet (fC r)) sNx)) rest e n = rest e n1) ∧ (xs.all p = false → ∃ e', sSeq (sFor it (tgN i) [i] (sIf t (sRet (fC r)) sNx)) rest e n = some (.rt (.d r), e', n1)) := by
  obtain ⟨a1, a2⟩ := loop_all (r := r) (p := p) hi h
  refine ⟨fun ha => ?_, fun ha => ?_⟩
  · simp only [sSeq, sFor, hit, if_pos hl, a1 ha]
  · obtain ⟨e', z⟩ := a2 ha
    exact ⟨e', by simp only [sSeq, sFor, hit, if_pos hl, z]⟩
/-! ### a block gives an answer -/
def Gives (s : FS) (e : Ev) (n : Nat) (v : Sv) (n' : Nat) : Prop := ∃ e', s e n = some (.rt v, e', n')
theorem run_g {N np : Nat} {body : FS} {as : List Sv} {n n' v} (hl : as.length = np) (h : Gives body (argsE N np as) n v n') : runF N np body as n = some (v, n') := by
  obtain ⟨e', h⟩ := h
  exact run_rt hl h
theorem g_ret {f : FE} {e n x n1} (h : f e n = some (.d x, n1)) : Gives (sRet f) e n (.d x) n1 := ⟨_, ret_ev h⟩
theorem g_seq_if {t : FT} {a b rest : FS} {e n n1 c v n'} (h : t e n = some (c, n1)) (k1 : c = true → Gives (sSeq a rest) e n1 v n') (k2 : c = false → Gives (sSeq b rest) e n1 v n') : Gives (sSeq (sIf t a b) rest) e n v n' := by
  cases c with
  | true => obtain ⟨e', q⟩ := k1 rfl; exact ⟨e', (seqif h).trans q⟩
  | false => obtain ⟨e', q⟩ := k2 rfl; exact ⟨e', (seqif h).trans q⟩
theorem g_seq_ret {f : FE} {rest : FS} {e n x n1} (h : f e n = some (.d x, n1)) : Gives (sSeq (sRet f) rest) e n (.d x) n1 := ⟨e, by simp [sSeq, sRet, h, Sv.own]⟩
theorem g_nx {rest : FS} {e n v n'} (h : Gives rest e n v n') : Gives (sSeq sNx rest) e n v n' := h
theorem g_out {t : FT} {r : PyData} {rest : FS} {e n n1 c v n'} (h : t e n = some (c, n1)) (k1 : c = true → v = .d r ∧ n' = n1) (k2 : c = false → Gives rest e n1 v n') : Gives (sSeq (sIf t (sRet (fC r)) sNx) rest) e n v n' :=
  g_seq_if h (fun z => by obtain ⟨rfl, rfl⟩ := k1 z; exact g_seq_ret rfl) (fun z => g_nx (k2 z))
theorem g_set {i : Nat} {f : FE} {rest : FS} {e n sv n1 v n'} (h : f e n = some (sv, n1)) (ho : sv.own = true) (k : Gives rest (e.set i (some sv)) n1 v n') : Gives (sSeq (sAsg i f) rest) e n v n' := by
  obtain ⟨e', q⟩ := k
  exact ⟨e', by simp only [sSeq, sAsg, h, ho, if_pos]; exact q⟩
theorem g_setT {tg : FG} {f : FE} {rest : FS} {e n x n1 e1 v n'} (h : f e n = some (.d x, n1)) (ht : tg x e = some e1) (k : Gives rest e1 n1 v n') : Gives (sSeq (sAsgT tg f) rest) e n v n' := by
  obtain ⟨e', q⟩ := k
  exact ⟨e', by simp only [sSeq, sAsgT, h, Sv.take, ht]; exact q⟩
theorem g_frz {is : List Nat} {a : FS} {e n v n'} (k : Gives a (frzE e is) n v n') : Gives (sFrz is a) e n v n' := k
theorem g_drop {f : FE} {rest : FS} {e n sv n1 v n'} (h : f e n = some (sv, n1)) (k : Gives rest e n1 v n') : Gives (sSeq (sDrop f) rest) e n v n' := by
  obtain ⟨e', q⟩ := k
  exact ⟨e', by simp only [sSeq, sDrop, h]; exact q⟩
theorem g_all {it : FI} {t : FT} {i : Nat} {e : Ev} {n n1 n' : Nat} {r : PyData} {p : PyData → Bool} {xs : List PyData} {rest : FS} {v : Sv} (hi : e[i]? = some none) (hit : it e n = some (xs, n1)) (hl : xs.length ≤ big) (h : ∀ x ∈ xs, t (e.set i (some (.d x))) n1 = some (!p x, n1))
    (k1 : xs.all p = true → Gives rest e n1 v n') (k2 : xs.all p = false → v = .d r ∧ n' = n1) : Gives (sSeq (sFor it (tgN i) [i] (sIf t (sRet (fC r)) sNx)) rest) e n v n' := by
  obtain ⟨a1, a2⟩ := for_all (v := fun _ => True) (r := r) (p := p) (rest := rest) hi hit hl h
  cases q : xs.all p with
  | true => obtain ⟨e', z⟩ := k1 q; exact ⟨e', (a1 q).trans z⟩
  | false => obtain ⟨rfl, rfl⟩ := k2 q; exact a2 q
theorem m_is_number (d : PyData) (lo hi : Int) (n : Nat) : F_is_number [.d d, .d (.int lo), .d (.int hi)] n = some (.d (.bool (numD d lo hi)), n) := by
  refine run_rt rfl (ret_ev ?_)
  rw [and_ev (b := isInt d) rfl]
  cases d with
  | int i =>
    rw [if_pos (show isInt (.int i) = true from rfl), and_ev (b := true) rfl, if_pos rfl]
    exact chain_le rfl rfl rfl
  | _ => rfl
theorem m_is_tuple (d : PyData) (lo hi : Int) (n : Nat) : F_is_tuple [.d d, .d (.int lo), .d (.int hi)] n = some (.d (.bool (tupD d lo hi)), n) := by
  refine run_rt rfl (ret_ev ?_)
  rw [and_ev (b := isTup d) rfl]
  cases d with
  | tuple ds =>
    rw [if_pos (show isTup (.tuple ds) = true from rfl)]
    exact chain_le rfl rfl rfl
  | _ => rfl
theorem seq_ret_if {t : FT} {r : PyData} {rest : FS} {e n n1 c} (h : t e n = some (c, n1)) : sSeq (sIf t (sRet (fC r)) sNx) rest e n = if c = true then some (.rt (.d r), e, n1) else rest e n1 := by
  rw [seqif h]
  cases c <;> rfl
theorem notb {f : FE} {e n n1 b} (h : f e n = some (.d (.bool b), n1)) : tNotF (bT f) e n = some (!b, n1) := by
  simp [tNotF, bT, h]
theorem bt {f : FE} {e n n1 b} (h : f e n = some (.d (.bool b), n1)) : bT f e n = some (b, n1) := by
  simp [bT, h]
theorem or_t {f g : FT} {e n n1 b} (h : f e n = some (b, n1)) : tOrF f g e n = if b = true then some (true, n1) else g e n1 := by
  cases b <;> simp [tOrF, h]
theorem and_t {f g : FT} {e n n1 b} (h : f e n = some (b, n1)) : tAndF f g e n = if b = true then g e n1 else some (false, n1) := by
  cases b <;> simp [tAndF, h]
theorem cmp_ev {g : PyData → PyData → Option PyData} {fa fb : FE} {e n n1 n2} {a b z : PyData} (h1 : fa e n = some (.d a, n1)) (h2 : fb e n1 = some (.d b, n2)) (h3 : g a b = some z) : fOp2 (seeB g) fa fb e n = some (.d z, n2) := by
  simp [fOp2, h1, h2, seeB, Sv.see, h3]
theorem letter_lt (c k : Nat) : (decide (([c] : List Nat) < [k])) = decide (c < k) := by
  by_cases h : c < k
  · rw [decide_eq_true h, decide_eq_true (List.cons_lt_cons_iff.mpr (.inl h))]
  · rw [decide_eq_false h, decide_eq_false]
    intro z
    rcases List.cons_lt_cons_iff.mp z with z | ⟨_, z⟩
    · exact h z
    · exact absurd z (List.lt_irrefl _)
theorem m_is_text (d : PyData) (k : Int) (n : Nat) (hs : smD d = true) : F_is_text [.d d, .d (.int k)] n = some (.d (.bool (textD d k)), n) := by
  cases d with
  | str z =>
    have hz : z.length ≤ big := of_decide_eq_true hs
    have h1 : (tOrF (tNotF (bT (fIsi isStr (fVar 0)))) (bT (fOp2 (seeB (ordD .Gt)) (lenS (faCons (fVar 0) faNil)) (fVar 1)))) (argsE 3 2 [.d (.str z), .d (.int k)]) n = some (decide (k < (z.length : Int)), n) := by
      rw [or_t (b := false) rfl, if_neg Bool.false_ne_true]
      refine bt (cmp_ev (a := .int z.length) ?_ rfl (ordGt_int _ _))
      simp [lenS, faCons, fVar, argsE, faNil, Sv.arg, see1, Sv.see, lenG, hz]
    show runF 3 2 b_is_text _ _ = _
    have hall : ((signs z).map PyData.str).all (fun d => match d with
        | .str c => letterOk (c.cps.toList.headD 0)
        | _ => false) = z.cps.toList.all letterOk := by
      unfold signs
      rw [List.map_map, List.all_map]
      rfl
    refine run_g rfl (g_out h1 (fun z1 => ?_) (fun z1 => g_all (p := fun d => match d with
        | .str c => letterOk (c.cps.toList.headD 0)
        | _ => false) rfl rfl (by unfold signs; rw [List.length_map, List.length_map, Array.length_toList]; exact hz) (fun x hx => ?_) (fun ha => ?_) (fun ha => ?_)))
    · have hk := of_decide_eq_true z1
      have e1 : textD (.str z) k = false := by
        show (decide ((z.length : Int) ≤ k) && _) = false
        rw [decide_eq_false (by omega)]
        rfl
      rw [e1]
      exact ⟨rfl, rfl⟩
    · obtain ⟨c0, hc, rfl⟩ := List.mem_map.mp hx
      obtain ⟨c, _, rfl⟩ := List.mem_map.mp hc
      rw [or_t (bt (cmp_ev (a := .str ⟨#[c]⟩) (b := .str "a") rfl rfl (ordLt_str _ _)))]
      have l1 : decide ((⟨#[c]⟩ : Str).cps.toList < ("a" : Str).cps.toList) = decide (c < 97) := letter_lt c 97
      have l2 : decide (("z" : Str).cps.toList < (⟨#[c]⟩ : Str).cps.toList) = decide (122 < c) := letter_lt 122 c
      rw [l1]
      by_cases g : c < 97
      · rw [decide_eq_true g, if_pos rfl]
        show _ = some (!(decide (97 ≤ c) && decide (c ≤ 122)), n)
        rw [decide_eq_false (by omega : ¬ 97 ≤ c)]
        rfl
      · rw [decide_eq_false g, if_neg Bool.false_ne_true]
        refine (bt (cmp_ev (a := .str ⟨#[c]⟩) (b := .str "z") rfl rfl (ordGt_str _ _))).trans ?_
        rw [l2]
        show _ = some (!(decide (97 ≤ c) && decide (c ≤ 122)), n)
        rw [decide_eq_true (by omega : 97 ≤ c), Bool.true_and]
        by_cases g2 : 122 < c
        · rw [decide_eq_true g2, decide_eq_false (by omega : ¬ c ≤ 122)]; rfl
        · rw [decide_eq_false g2, decide_eq_true (by omega : c ≤ 122)]; rfl
    · rw [hall] at ha
      have hk := of_decide_eq_false z1
      have e1 : textD (.str z) k = true := by
        show (decide ((z.length : Int) ≤ k) && z.cps.toList.all letterOk) = true
        rw [decide_eq_true (by omega), ha]
        rfl
      rw [e1]
      exact g_ret rfl
    · rw [hall] at ha
      have e1 : textD (.str z) k = false := by
        show (_ && z.cps.toList.all letterOk) = false
        rw [ha, Bool.and_false]
      rw [e1]
      exact ⟨rfl, rfl⟩
  | _ => rfl
/-! ascending -/
theorem len_ev {f : FE} {e n n1} {x : PyData} {r : Sv} (h : f e n = some (.d x, n1)) (g : lenG x = some r) : lenS (faCons f faNil) e n = some (r, n1) := by
  simp [lenS, faCons, h, faNil, Sv.arg, see1, Sv.see, g]
theorem int_ix {ds : List PyData} {d x : PyData} (hd : d = .tuple ds ∨ d = .list ds) {j : Nat} (h : ds[j]? = some x) : ixD d (.int (j : Int)) = some x := by
  rcases hd with rfl | rfl <;> exact atI_nat h
theorem asc_iff : ∀ {ds : List PyData}, ascD ds = true ↔ ∀ (j : Nat) (x y : PyData), ds[j]? = some x → ds[j + 1]? = some y → ltD x y = true := fun {ds} =>
  ⟨fun h j x y h1 h2 => asc_at h h1 h2, fun h => asc_of h⟩
theorem m_is_ascending {d : PyData} {ds : List PyData} (hd : d = .tuple ds ∨ d = .list ds) (n : Nat) (hl : ds.length ≤ big) (hc : ∀ x ∈ ds, ∀ y ∈ ds, cmpOk x y) : F_is_ascending [.d d] n = some (.d (.bool (ascD ds)), n) := by
  have hlen : lenG d = some (.d (.int ds.length)) := by rcases hd with rfl | rfl <;> rfl
  have hit : itRng2 (faCons (fC (.int 1)) (faCons (lenS (faCons (fVar 0) faNil)) faNil)) (argsE 2 1 [.d d]) n = some (intsUp 1 (((ds.length : Int) - 1).toNat), n) := by
    have h1 : lenS (faCons (fVar 0) faNil) (argsE 2 1 [.d d]) n = some (.d (.int ds.length), n) := len_ev rfl hlen
    have hb : smallI (ds.length : Int) = true := by
      unfold smallI
      have : (big : Int) = 100000 := rfl
      rw [decide_eq_true (by omega), decide_eq_true (by omega)]
      rfl
    have h0 : smallI 1 = true := by decide
    simp [itRng2, faCons, h1, fC, faNil, Sv.arg, h0, hb]
  let p : PyData → Bool := fun a => match a with
    | .int i => (match ds[(i - 1).toNat]?, ds[i.toNat]? with
      | some x, some y => ltD x y
      | _, _ => true)
    | _ => true
  have hp : (intsUp 1 (((ds.length : Int) - 1).toNat)).all p = ascD ds := by
    apply Bool.eq_iff_iff.mpr
    rw [asc_iff, List.all_eq_true]
    unfold intsUp
    constructor
    · intro h j x y h1 h2
      have hj := (List.getElem?_eq_some_iff.mp h2).1
      have := h (.int (1 + (j : Int))) (List.mem_map.mpr ⟨j, List.mem_range.mpr (by omega), rfl⟩)
      have t1 : ((1 : Int) + (j : Int) - 1).toNat = j := by omega
      have t2 : ((1 : Int) + (j : Int)).toNat = j + 1 := by omega
      simp only [p, t1, t2, h1, h2] at this
      exact this
    · intro h a ha
      obtain ⟨j, hj, rfl⟩ := List.mem_map.mp ha
      have hj := List.mem_range.mp hj
      have t1 : ((1 : Int) + (j : Int) - 1).toNat = j := by omega
      have t2 : ((1 : Int) + (j : Int)).toNat = j + 1 := by omega
      have h1 : ds[j]? = some ds[j] := List.getElem?_eq_getElem (by omega)
      have h2 : ds[j + 1]? = some ds[j + 1] := List.getElem?_eq_getElem (by omega)
      simp only [p, t1, t2, h1, h2]
      exact h j _ _ h1 h2
  refine run_g rfl (g_all (p := p) rfl hit (by unfold intsUp; rw [List.length_map, List.length_range]; have : (big : Int) = 100000 := rfl; omega) (fun a ha => ?_) (fun ha => ?_) (fun ha => ?_))
  · unfold intsUp at ha
    obtain ⟨j, hj, rfl⟩ := List.mem_map.mp ha
    have hj := List.mem_range.mp hj
    have t0 : (1 : Int) + (j : Int) - 1 = (j : Int) := by omega
    have t1 : ((1 : Int) + (j : Int) - 1).toNat = j := by omega
    have t2 : ((1 : Int) + (j : Int)).toNat = j + 1 := by omega
    have t3 : (1 : Int) + (j : Int) = ((j + 1 : Nat) : Int) := by omega
    have h1 : ds[j]? = some ds[j] := List.getElem?_eq_getElem (by omega)
    have h2 : ds[j + 1]? = some ds[j + 1] := List.getElem?_eq_getElem (by omega)
    obtain ⟨c1, c2, c3, c4⟩ := cmp_data (hc _ (List.getElem_mem (by omega : j < ds.length)) _ (List.getElem_mem (by omega : j + 1 < ds.length)))
    have ho : ordD .GtE ds[j] ds[j + 1] = some (.bool (!ltD ds[j] ds[j + 1])) := by
      unfold ordD ordOk
      have c5 : nonD ds[j] = false := by
        cases q : ds[j] with
        | none => exact absurd q c2
        | _ => rfl
      rw [c1, c5, decide_eq_true (by omega), if_pos (show (true && !false && true) = true from rfl)]
      show some (PyData.bool (!PySem.W.dataLt ds[j] ds[j + 1])) = _
      rw [c4]
    refine (bt (cmp_ev (a := ds[j]) (b := ds[j + 1]) (cmp_ev (a := d) (b := .int (j : Int)) rfl (cmp_ev (a := .int (1 + (j : Int))) (b := .int 1) rfl rfl (show subD (.int (1 + (j : Int))) (.int 1) = some (.int (j : Int)) from by show some (PyData.int (1 + (j : Int) - 1)) = _; rw [t0])) (int_ix hd h1)) (cmp_ev (a := d) (b := .int ((j + 1 : Nat) : Int)) rfl (by rw [← t3]; rfl) (int_ix hd h2)) ho)).trans ?_
    simp only [p, t1, t2, h1, h2]
  · rw [← hp, ha]
    exact g_ret rfl
  · rw [← hp, ha]
    exact ⟨rfl, rfl⟩
theorem call_ev {F : FF} {fa : FA} {np : Nat} {e n n1 as r} (h : fa e n = some (as, n1)) (hl : as.length = np) (hF : F as n1 = r) : fCall np F fa e n = r := by
  simp [fCall, h, hl, hF]
theorem smDs_mem {ds : List PyData} (h : smDs ds = true) : ∀ x ∈ ds, smD x = true := fun x hx => by
  obtain ⟨i, hi⟩ := List.getElem?_of_mem hx
  exact smDs_get h hi
theorem cmp_text {x y : PyData} {k k' : Int} (h1 : textD x k = true) (h2 : textD y k' = true) : cmpOk x y := by
  cases x <;> cases y <;> first | trivial | cases h1 | cases h2
theorem tup_mem {d : PyData} {lo hi : Int} (h : tupD d lo hi = true) : ∃ ds, d = .tuple ds ∧ lo ≤ (ds.length : Int) ∧ (ds.length : Int) ≤ hi := by
  cases d with
  | tuple ds =>
    unfold tupD at h
    rw [Bool.and_eq_true, decide_eq_true_eq, decide_eq_true_eq] at h
    exact ⟨ds, rfl, h.1, h.2⟩
  | _ => cases h
/-- if not is_tuple(..): return False -/
theorem g_tup {fa : FA} {rest : FS} {e n d} {lo hi : Int} {v n'} (h : fa e n = some ([.d d, .d (.int lo), .d (.int hi)], n)) (k1 : tupD d lo hi = false → v = .d (.bool false) ∧ n' = n) (k2 : ∀ ds, d = .tuple ds → lo ≤ (ds.length : Int) → (ds.length : Int) ≤ hi → Gives rest e n v n') :
    Gives (sSeq (sIf (tNotF (bT (fCall 3 F_is_tuple fa))) (sRet (fC (.bool false))) sNx) rest) e n v n' :=
  g_out (notb (call_ev h rfl (m_is_tuple d lo hi n))) (fun z => k1 (by simpa using z)) (fun z => by
    obtain ⟨ds, e1, e2, e3⟩ := tup_mem (d := d) (lo := lo) (hi := hi) (by simpa using z)
    exact k2 ds e1 e2 e3)
theorem tup_yes {ds : List PyData} {lo hi : Int} (h1 : lo ≤ (ds.length : Int)) (h2 : (ds.length : Int) ≤ hi) : tupD (.tuple ds) lo hi = true := by
  show (decide _ && decide _) = true
  rw [decide_eq_true h1, decide_eq_true h2]
  rfl
theorem bigI : (big : Int) = 100000 := rfl
theorem m_is_thing (d : PyData) (n : Nat) (hs : smD d = true) : F_is_thing [.d d] n = some (.d (.bool (thingD d)), n) := by
  refine run_g rfl (g_tup (d := d) (lo := 1) (hi := 4) rfl (fun ht => ?_) (fun ds e1 l1 l2 => ?_))
  · unfold thingD
    rw [ht]
    exact ⟨rfl, rfl⟩
  · subst e1
    have hm := smDs_mem (ds := ds) hs
    have e1 : thingD (.tuple ds) = (ds.all (fun x => textD x 4) && ascD ds) := by
      show (tupD (.tuple ds) 1 4 && ds.all (fun x => textD x 4) && ascD ds) = _
      rw [tup_yes l1 l2]
      rfl
    have hb := bigI
    refine g_all (p := fun x => textD x 4) rfl rfl (by omega) (fun x hx => notb (call_ev rfl rfl (m_is_text x 4 n (hm x hx)))) (fun ha => ?_) (fun ha => ?_)
    · rw [e1, ha]
      refine g_ret (call_ev rfl rfl (m_is_ascending (.inl rfl) n (by omega) fun x hx y hy => cmp_text (List.all_eq_true.mp ha x hx) (List.all_eq_true.mp ha y hy)))
    · rw [e1, ha]
      exact ⟨rfl, rfl⟩
/-! a loop that carries something -/
theorem loop_fold {A : Type} {tg : FG} {wp : List Nat} {body : FS} {n : Nat} {r : Sv} (E : A → Ev) (g : A → PyData → A) (p : PyData → Bool) : ∀ (xs : List PyData) (a : A),
    (∀ x ∈ xs, ∀ a, ∃ e1, tg x (E a) = some e1 ∧ (p x = true → ∃ e2, body e1 n = some (.nx, e2, n) ∧ wipeE e2 wp = E (g a x)) ∧ (p x = false → ∃ e2, body e1 n = some (.rt r, e2, n))) →
    (xs.all p = true → forL tg wp body xs (E a) n = some (.nx, E (xs.foldl g a), n)) ∧ (xs.all p = false → ∃ e', forL tg wp body xs (E a) n = some (.rt r, e', n))
  | [], a, _ => ⟨fun _ => rfl, fun h => by cases h⟩
  | x :: xs, a, h => by
    obtain ⟨e1, t1, h1, h2⟩ := h x List.mem_cons_self a
    cases hp : p x with
    | true =>
      obtain ⟨e2, b2, w2⟩ := h1 hp
      have ih := loop_fold E g p xs (g a x) fun y hy => h y (List.mem_cons_of_mem _ hy)
      have e0 : forL tg wp body (x :: xs) (E a) n = forL tg wp body xs (E (g a x)) n := by
        simp only [forL, t1, b2, w2]
      rw [List.all_cons, hp, Bool.true_and, e0, List.foldl_cons]
      exact ih
    | false =>
      obtain ⟨e2, b2⟩ := h2 hp
      rw [List.all_cons, hp, Bool.false_and]
      exact ⟨fun z => (nomatch z), fun _ => ⟨e2, by simp only [forL, t1, b2]⟩⟩
theorem g_fold {A : Type} {it : FI} {tg : FG} {wp : List Nat} {body rest : FS} {e : Ev} {n n1 n' : Nat} {r v : Sv} {xs : List PyData} (E : A → Ev) (g : A → PyData → A) (p : PyData → Bool) (a : A) (hit : it e n = some (xs, n1)) (hl : xs.length ≤ big) (he : e = E a)
    (h : ∀ x ∈ xs, ∀ a, ∃ e1, tg x (E a) = some e1 ∧ (p x = true → ∃ e2, body e1 n1 = some (.nx, e2, n1) ∧ wipeE e2 wp = E (g a x)) ∧ (p x = false → ∃ e2, body e1 n1 = some (.rt r, e2, n1)))
    (k1 : xs.all p = true → Gives rest (E (xs.foldl g a)) n1 v n') (k2 : xs.all p = false → v = r ∧ n' = n1) : Gives (sSeq (sFor it tg wp body) rest) e n v n' := by
  obtain ⟨a1, a2⟩ := loop_fold E g p xs a h
  subst he
  cases q : xs.all p with
  | true =>
    obtain ⟨e', z⟩ := k1 q
    exact ⟨e', by simp only [sSeq, sFor, hit, if_pos hl, a1 q]; exact z⟩
  | false =>
    obtain ⟨rfl, rfl⟩ := k2 q
    obtain ⟨e', z⟩ := a2 q
    exact ⟨e', by simp only [sSeq, sFor, hit, if_pos hl, z]⟩
/-! ### things, readings, steps, made, recipes -/
theorem mul_ev {fa fb : FE} {e n} {a b : Int} (h1 : fa e n = some (.d (.int a), n)) (h2 : fb e n = some (.d (.int b), n)) (hb : -(2 ^ 64) < b ∧ b < 2 ^ 64) : fOp2 (seeB mulD) fa fb e n = some (.d (.int (a * b)), n) := by
  refine cmp_ev h1 h2 ?_
  unfold mulD
  exact if_pos (.inr hb)
theorem tlen {ds : List PyData} : lenG (.tuple ds) = some (.d (.int ds.length)) := rfl
def wid (d : PyData) : Int := ((seqD d).length : Int)
theorem prod_fold : ∀ (ds : List PyData) (m : Int), ds.foldl (fun a d => a * wid d) m = m * (prodD ds : Int)
  | [], m => by rw [List.foldl_nil, prodD]; omega
  | d :: ds, m => by
    rw [List.foldl_cons, prod_fold ds, prodD, Int.natCast_mul, ← Int.mul_assoc]
    rfl
theorem m_are_things (d : PyData) (n : Nat) (hs : smD d = true) : F_are_things [.d d] n = some (.d (.bool (thingsD d)), n) := by
  refine run_g rfl (g_tup (d := d) (lo := 1) (hi := 5) rfl (fun ht => ?_) (fun ds e1 l1 l2 => ?_))
  · unfold thingsD
    rw [ht]
    exact ⟨rfl, rfl⟩
  · subst e1
    have hm := smDs_mem (ds := ds) hs
    have hb := bigI
    have e1 : thingsD (.tuple ds) = (ds.all thingD && decide (prodD ds ≤ 256)) := by
      show (tupD (.tuple ds) 1 5 && ds.all thingD && decide (prodD ds ≤ 256)) = _
      rw [tup_yes l1 l2]
      rfl
    rw [e1]
    refine g_set (sv := .d (.int 1)) rfl rfl (g_fold (r := .d (.bool false)) (fun m : Int => [some (.d (.tuple ds)), some (.d (.int m)), none]) (fun m x => m * wid x) thingD 1 (xs := ds) (n1 := n) rfl (by omega) rfl (fun x hx m => ⟨[some (.d (.tuple ds)), some (.d (.int m)), some (.d x)], rfl, fun hp => ?_, fun hp => ?_⟩) (fun ha => ?_) (fun ha => ?_))
    · have h0 := notb (call_ev (fa := faCons (fVar 2) faNil) (e := [some (.d (.tuple ds)), some (.d (.int m)), some (.d x)]) (np := 1) rfl rfl (m_is_thing x n (hm x hx)))
      rw [hp] at h0
      obtain ⟨es, ex, _, l4⟩ := tup_mem (d := x) (lo := 1) (hi := 4) (by
        unfold thingD at hp
        rw [Bool.and_eq_true, Bool.and_eq_true] at hp
        exact hp.1.1)
      subst ex
      have q := mul_ev (fa := fVar 1) (fb := lenS (faCons (fVar 2) faNil)) (e := [some (.d (.tuple ds)), some (.d (.int m)), some (.d (.tuple es))]) (n := n) (a := m) (b := es.length) rfl (len_ev rfl tlen) (by omega)
      refine ⟨[some (.d (.tuple ds)), some (.d (.int (m * es.length))), some (.d (.tuple es))], ((seq_ret_if h0).trans (if_neg Bool.false_ne_true)).trans ?_, rfl⟩
      simp only [sAsg, q, Sv.own, if_pos]
      rfl
    · have h0 := notb (call_ev (fa := faCons (fVar 2) faNil) (e := [some (.d (.tuple ds)), some (.d (.int m)), some (.d x)]) (np := 1) rfl rfl (m_is_thing x n (hm x hx)))
      rw [hp] at h0
      exact ⟨_, (seq_ret_if h0).trans (if_pos rfl)⟩
    · rw [ha, prod_fold, Int.one_mul, Bool.true_and, show decide (prodD ds ≤ 256) = decide ((prodD ds : Int) ≤ 256) from decide_eq_decide.mpr (by omega)]
      exact g_frz (g_ret (cmp_ev (a := .int (prodD ds : Nat)) (b := .int 256) rfl rfl (ordLe_int _ _)))
    · rw [ha]
      exact ⟨rfl, rfl⟩
theorem eq_str (x y : Str) : eqD false (.str x) (.str y) = some (.bool (decide (x = y))) := by
  show some (PyData.bool (decide (x = y) != false)) = _
  rw [Bool.bne_false]
theorem reading_no {d : PyData} {m s : Int} (h : tupD d 2 2 = false) : readingD d m s = false := by
  unfold readingD
  split
  · cases h
  · rfl
theorem m_is_reading (d : PyData) (m st : Int) (n : Nat) : F_is_reading [.d d, .d (.int m), .d (.int st)] n = some (.d (.bool (readingD d m st)), n) := by
  refine run_g rfl (g_tup (d := d) (lo := 2) (hi := 2) rfl (fun ht => ?_) (fun ds e1 l1 l2 => ?_))
  · rw [reading_no ht]
    exact ⟨rfl, rfl⟩
  · subst e1
    match ds, l1, l2 with
    | [w, x], _, _ =>
      refine g_setT (x := .tuple [w, x]) rfl rfl (g_out (c := !isStr w) (notb rfl) (fun z => ?_) (fun z => ?_))
      · cases w <;> first | exact ⟨rfl, rfl⟩ | cases z
      · cases w with
        | str w =>
          refine g_seq_if (c := decide (w = ("thing" : Str))) (bt (cmp_ev (a := .str w) (b := .str "thing") rfl rfl (eq_str w "thing"))) (fun hw => ?_) (fun hw => ?_)
          · have hw := of_decide_eq_true hw
            have e1 : readingD (.tuple [.str w, x]) m st = numD x 0 (m - 1) := if_pos hw
            rw [e1]
            exact g_seq_ret (call_ev (as := [.d x, .d (.int 0), .d (.int (m - 1))]) rfl rfl (m_is_number x 0 (m - 1) n))
          · have hw : w ≠ ("thing" : Str) := of_decide_eq_false hw
            have e1 : readingD (.tuple [.str w, x]) m st = (decide (w = ("step" : Str)) && numD x 0 (st - 1)) := if_neg hw
            rw [e1]
            refine g_nx (g_ret ?_)
            rw [and_ev (cmp_ev (a := .str w) (b := .str "step") rfl rfl (eq_str w "step"))]
            by_cases hs : w = ("step" : Str)
            · rw [decide_eq_true hs, if_pos rfl]
              exact call_ev (as := [.d x, .d (.int 0), .d (.int (st - 1))]) rfl rfl (m_is_number x 0 (st - 1) n)
            · rw [decide_eq_false hs, if_neg Bool.false_ne_true]
              rfl
        | _ => cases z
theorem step_no {d : PyData} {m s : Int} (h : tupD d 2 2 = false) : stepD d m s = false := by
  unfold stepD
  split
  · cases h
  · rfl
theorem m_is_step (d : PyData) (m st : Int) (n : Nat) : F_is_step [.d d, .d (.int m), .d (.int st)] n = some (.d (.bool (stepD d m st)), n) := by
  refine run_g rfl (g_tup (d := d) (lo := 2) (hi := 2) rfl (fun ht => ?_) (fun ds e1 l1 l2 => ?_))
  · rw [step_no ht]
    exact ⟨rfl, rfl⟩
  · subst e1
    match ds, l1, l2 with
    | [o, rs], _, _ =>
      refine g_setT (x := .tuple [o, rs]) rfl rfl ?_
      cases o with
      | str o =>
        have ht : tOrF (tNotF (bT (fIsi isStr (fVar 3)))) (bT (fInM true mREADINGS (fVar 3))) [some (.d (.tuple [.str o, rs])), some (.d (.int m)), some (.d (.int st)), some (.d (.str o)), some (.d rs), none] n = some (!(lookM mREADINGS o).isSome, n) := by
          rw [or_t (b := false) rfl, if_neg Bool.false_ne_true]
          refine bt ?_
          show some (Sv.d (PyData.bool ((lookM mREADINGS o).isSome != true)), n) = _
          rw [Bool.bne_true]
        have e0 : stepD (.tuple [.str o, rs]) m st = (match lookM mREADINGS o with
          | some k => tupD rs k k && (seqD rs).all (fun x => readingD x m st)
          | none => false) := rfl
        refine g_out (c := !(lookM mREADINGS o).isSome) ht (fun z => ?_) (fun z => ?_)
        · rw [e0]
          cases q : lookM mREADINGS o with
          | none => exact ⟨rfl, rfl⟩
          | some k => rw [q] at z; cases z
        · cases q : lookM mREADINGS o with
          | none => rw [q] at z; cases z
          | some k =>
            rw [e0, q]
            dsimp only
            have hix : fIxM mREADINGS (fVar 3) [some (.d (.tuple [.str o, rs])), some (.d (.int m)), some (.d (.int st)), some (.d (.str o)), some (.d rs), none] n = some (.d (.int k), n) := by
              show (match lookM mREADINGS o with
                | some i => some (Sv.d (.int i), n)
                | none => none) = _
              rw [q]
            have hargs : faCons (fVar 4) (faCons (fIxM mREADINGS (fVar 3)) (faCons (fIxM mREADINGS (fVar 3)) faNil)) [some (.d (.tuple [.str o, rs])), some (.d (.int m)), some (.d (.int st)), some (.d (.str o)), some (.d rs), none] n = some ([.d rs, .d (.int k), .d (.int k)], n) := by
              have h4 : fVar 4 [some (.d (.tuple [.str o, rs])), some (.d (.int m)), some (.d (.int st)), some (.d (.str o)), some (.d rs), none] n = some (.d rs, n) := rfl
              simp [faCons, hix, h4, faNil, Sv.arg]
            refine g_tup (d := rs) (lo := k) (hi := k) hargs (fun ht => ?_) (fun es e1 l1 l2 => ?_)
            · rw [ht]
              exact ⟨rfl, rfl⟩
            · subst e1
              have k3 : k ≤ 3 := by
                have : ∀ p ∈ mREADINGS, p.2 ≤ 3 := by decide
                have gen : ∀ (l : List (Str × Int)), lookM l o = some k → ∃ p ∈ l, p.2 = k := by
                  intro l
                  induction l with
                  | nil => intro h; cases h
                  | cons p l ih =>
                    obtain ⟨y, i⟩ := p
                    intro h
                    unfold lookM at h
                    split at h
                    · cases h; exact ⟨(y, k), List.mem_cons_self, rfl⟩
                    · obtain ⟨p, hp, e⟩ := ih h; exact ⟨p, List.mem_cons_of_mem _ hp, e⟩
                obtain ⟨p, hp, e⟩ := gen mREADINGS q
                rw [← e]
                exact this p hp
              have hb := bigI
              rw [tup_yes l1 l2, Bool.true_and]
              refine g_all (p := fun x => readingD x m st) (xs := es) rfl rfl (by omega) (fun x hx => notb (call_ev (as := [.d x, .d (.int m), .d (.int st)]) rfl rfl (m_is_reading x m st n))) (fun ha => ?_) (fun ha => ?_)
              · show Gives _ _ _ (.d (.bool (es.all fun x => readingD x m st))) _
                rw [ha]
                exact g_ret rfl
              · show Sv.d (.bool (es.all fun x => readingD x m st)) = _ ∧ _
                rw [ha]
                exact ⟨rfl, rfl⟩
      | _ => exact g_out (c := true) rfl (fun _ => ⟨rfl, rfl⟩) (fun z => nomatch z)
theorem stepsAll_iff : ∀ {ds : List PyData} {m : Int} {s : Nat}, stepsAllD ds m s = (List.range ds.length).all fun j => stepD (ds.getD j .none) m ((s + j : Nat) : Int)
  | [], _, _ => rfl
  | d :: ds, m, s => by
    rw [stepsAllD, stepsAll_iff, List.length_cons, List.range_succ_eq_map, List.all_cons, List.all_map]
    congr 1
    congr 1
    funext j
    show stepD (ds.getD j .none) m ((s + 1 + j : Nat) : Int) = stepD (ds.getD j .none) m ((s + (j + 1) : Nat) : Int)
    rw [show s + 1 + j = s + (j + 1) by omega]
theorem m_are_steps (d : PyData) (m : Int) (n : Nat) : F_are_steps [.d d, .d (.int m)] n = some (.d (.bool (stepsD d m)), n) := by
  refine run_g rfl (g_tup (d := d) (lo := 1) (hi := 8) rfl (fun ht => ?_) (fun ds e1 l1 l2 => ?_))
  · unfold stepsD
    rw [ht]
    exact ⟨rfl, rfl⟩
  · subst e1
    have hb := bigI
    have e1 : stepsD (.tuple ds) m = stepsAllD ds m 0 := by
      show (tupD (.tuple ds) 1 8 && stepsAllD ds m 0) = _
      rw [tup_yes l1 l2]
      rfl
    have hit : itRng1 (faCons (lenS (faCons (fVar 0) faNil)) faNil) (argsE 3 2 [.d (.tuple ds), .d (.int m)]) n = some (intsUp 0 ds.length, n) := by
      have hs : smallI (ds.length : Int) = true := by
        unfold smallI
        rw [decide_eq_true (by omega), decide_eq_true (by omega)]
        rfl
      show (if smallI (ds.length : Int) = true then some (intsUp 0 ((ds.length : Int)).toNat, n) else none) = _
      rw [if_pos hs]
      rfl
    let p : PyData → Bool := fun a => match a with
      | .int i => stepD (ds.getD i.toNat .none) m i
      | _ => true
    have pj : ∀ j : Nat, p (.int (j : Int)) = stepD (ds.getD j .none) m (j : Int) := fun j => by
      show stepD (ds.getD ((j : Int)).toNat .none) m (j : Int) = _
      rw [Int.toNat_natCast]
    have hp : (intsUp 0 ds.length).all p = stepsAllD ds m 0 := by
      rw [stepsAll_iff]
      unfold intsUp
      rw [List.all_map]
      exact congrArg (List.all (List.range ds.length)) (funext fun j => by
        have t0 : (0 : Int) + (j : Int) = (j : Int) := by omega
        have t1 : 0 + j = j := by omega
        show p (.int ((0 : Int) + (j : Int))) = _
        rw [t0, t1]
        exact pj j)
    rw [e1, ← hp]
    refine g_all (p := p) rfl hit (by unfold intsUp; rw [List.length_map, List.length_range]; omega) (fun a ha => ?_) (fun ha => ?_) (fun ha => ?_)
    · unfold intsUp at ha
      obtain ⟨j, hj, rfl⟩ := List.mem_map.mp ha
      have hj := List.mem_range.mp hj
      have t0 : (0 : Int) + (j : Int) = (j : Int) := by omega
      rw [t0]
      have hx : ds[j]? = some (ds.getD j .none) := by rw [List.getElem?_eq_getElem hj, List.getD_eq_getElem?_getD, List.getElem?_eq_getElem hj]; rfl
      rw [pj j]
      refine notb (call_ev (as := [.d (ds.getD j .none), .d (.int m), .d (.int j)]) ?_ rfl (m_is_step _ m j n))
      have q := cmp_ev (g := ixD) (fa := fVar 0) (fb := fVar 2) (e := [some (.d (.tuple ds)), some (.d (.int m)), some (.d (.int j))]) (n := n) (n1 := n) (n2 := n) (a := .tuple ds) (b := .int j) rfl rfl (int_ix (.inl rfl) hx)
      show faCons _ _ [some (.d (.tuple ds)), some (.d (.int m)), some (.d (.int j))] n = _
      simp only [faCons, q, faNil, Sv.arg]
      rfl
    · rw [ha]
      exact g_ret rfl
    · rw [ha]
      exact ⟨rfl, rfl⟩
theorem num_int {d : PyData} {lo hi : Int} (h : numD d lo hi = true) : ∃ i, d = .int i ∧ lo ≤ i ∧ i ≤ hi := by
  cases d with
  | int i =>
    unfold numD at h
    rw [Bool.and_eq_true, decide_eq_true_eq, decide_eq_true_eq] at h
    exact ⟨i, rfl, h.1, h.2⟩
  | _ => cases h
theorem m_is_made (d : PyData) (s : Int) (n : Nat) : F_is_made [.d d, .d (.int s)] n = some (.d (.bool (madeD d s)), n) := by
  refine run_g rfl (g_tup (d := d) (lo := 1) (hi := 3) rfl (fun ht => ?_) (fun ds e1 l1 l2 => ?_))
  · unfold madeD
    rw [ht]
    exact ⟨rfl, rfl⟩
  · subst e1
    have hb := bigI
    have e1 : madeD (.tuple ds) s = (ds.all (fun x => numD x 0 (s - 1)) && ascD ds) := by
      show (tupD (.tuple ds) 1 3 && ds.all (fun x => numD x 0 (s - 1)) && ascD ds) = _
      rw [tup_yes l1 l2]
      rfl
    refine g_all (p := fun x => numD x 0 (s - 1)) (xs := ds) rfl rfl (by omega) (fun x hx => notb (call_ev (as := [.d x, .d (.int 0), .d (.int (s - 1))]) rfl rfl (m_is_number x 0 (s - 1) n))) (fun ha => ?_) (fun ha => ?_)
    · rw [e1, ha]
      refine g_ret (call_ev (as := [.d (.tuple ds)]) rfl rfl (m_is_ascending (.inl rfl) n (by omega) fun x hx y hy => ?_))
      obtain ⟨i, rfl, _⟩ := num_int (List.all_eq_true.mp ha x hx)
      obtain ⟨j, rfl, _⟩ := num_int (List.all_eq_true.mp ha y hy)
      trivial
    · rw [e1, ha]
      exact ⟨rfl, rfl⟩
theorem m_is_recipe (d : PyData) (n : Nat) (hs : smD d = true) : F_is_recipe [.d d] n = some (.d (.bool (recipeD d)), n) := by
  refine run_g rfl (g_tup (d := d) (lo := 3) (hi := 3) rfl (fun ht => ?_) (fun ds e1 l1 l2 => ?_))
  · have e1 : recipeD d = false := by
      unfold recipeD
      split
      · cases ht
      · rfl
    rw [e1]
    exact ⟨rfl, rfl⟩
  · subst e1
    match ds, l1, l2 with
    | [t, s, m], _, _ =>
      have ht : smD t = true := smDs_mem (ds := [t, s, m]) hs t List.mem_cons_self
      refine g_setT (x := .tuple [t, s, m]) rfl rfl (g_ret ?_)
      show fAnd _ _ [some (.d (.tuple [t, s, m])), some (.d t), some (.d s), some (.d m)] n = _
      have e1 : recipeD (.tuple [t, s, m]) = (thingsD t && (stepsD s ((seqD t).length : Int) && madeD m ((seqD s).length : Int))) := rfl
      have k1 := call_ev (fa := faCons (fVar 1) faNil) (e := [some (.d (.tuple [t, s, m])), some (.d t), some (.d s), some (.d m)]) (np := 1) (as := [.d t]) rfl rfl (m_are_things t n ht)
      rw [e1, and_ev k1]
      cases h1 : thingsD t with
      | false => rfl
      | true =>
        have h1' := h1
        unfold thingsD at h1'
        rw [Bool.and_eq_true, Bool.and_eq_true] at h1'
        obtain ⟨ts, rfl, _, _⟩ := tup_mem h1'.1.1
        have k2 := call_ev (fa := faCons (fVar 2) (faCons (lenS (faCons (fVar 1) faNil)) faNil)) (e := [some (.d (.tuple [.tuple ts, s, m])), some (.d (.tuple ts)), some (.d s), some (.d m)]) (n := n) (np := 2) (as := [.d s, .d (.int ts.length)]) rfl rfl (m_are_steps s ts.length n)
        rw [if_pos rfl, and_ev k2]
        show (if stepsD s (ts.length : Int) = true then _ else _) = (some (Sv.d (.bool (true && (stepsD s (ts.length : Int) && madeD m ((seqD s).length : Int)))), n) : Option (Sv × Nat))
        cases h2 : stepsD s (ts.length : Int) with
        | false => rfl
        | true =>
          have h2' := h2
          unfold stepsD at h2'
          rw [Bool.and_eq_true] at h2'
          obtain ⟨ss, rfl, _, _⟩ := tup_mem h2'.1
          rw [if_pos rfl]
          exact call_ev (as := [.d m, .d (.int ss.length)]) rfl rfl (m_is_made m ss.length n)
end Sb
namespace Sb
open PySem PySem.Spec PyProof.Rows L2
/-! ### the generator's draws -/
theorem add_ev {fa fb : FE} {e n n1 n2} {a b : Int} (h1 : fa e n = some (.d (.int a), n1)) (h2 : fb e n1 = some (.d (.int b), n2)) : fOp2 addL fa fb e n = some (.d (.int (a + b)), n2) := by
  simp only [fOp2, h1, h2]
  rfl
theorem cmp_see {g : PyData → PyData → Option PyData} {fa fb : FE} {e n n1 n2} {sa sb : Sv} {a b z : PyData} (h1 : fa e n = some (sa, n1)) (s1 : sa.see = some a) (h2 : fb e n1 = some (sb, n2)) (s2 : sb.see = some b) (h3 : g a b = some z) : fOp2 (seeB g) fa fb e n = some (.d z, n2) := by
  simp [fOp2, h1, h2, seeB, s1, s2, h3]
theorem eq_nil {xs : List PyData} (neg : Bool) (h : SeqAt.shaped (.list xs) = true) : eqD neg (.list xs) (.list []) = some (.bool (xs.isEmpty != neg)) := by
  show (if SeqAt.shaped (.list xs) = true ∧ SeqAt.shaped (.list []) = true then some (PyData.bool (PyData.eqv (.list xs) (.list []) != neg)) else none) = _
  rw [if_pos ⟨h, shaped_nil⟩, eqv_nil]
theorem sc_len (ns : List Int) : lenG (scriptD ns) = some (.d (.int ns.length)) := by
  show some (Sv.d (.int (ns.map PyData.int).length)) = _
  rw [List.length_map]
theorem sc_at {ns : List Int} {k : Nat} (h : k < ns.length) : ixD (scriptD ns) (.int (k : Int)) = some (.int ns[k]) :=
  int_ix (ds := ns.map .int) (.inr rfl) (by rw [List.getElem?_map, List.getElem?_eq_getElem h]; rfl)
theorem cell_loop (sc k : Sv) (n : Nat) : ∀ (xs : List PyData) (s : Int), ∃ s' : Int, forL (tgN 3) [3] (sAsg 2 (fOp2 (seeB fdivD) (fVar 2) (fC (.int 1000003)))) xs [some sc, some k, some (.d (.int s)), none] n = some (.nx, [some sc, some k, some (.d (.int s')), none], n)
  | [], s => ⟨s, rfl⟩
  | x :: xs, s => by
    obtain ⟨s', h⟩ := cell_loop sc k n xs (s.fdiv 1000003)
    exact ⟨s', h⟩
theorem m_cell (ns : List Int) (hn : ns.length ≤ 63) (k n : Nat) : ∃ i : Int, F_cell_at [.d (scriptD ns), .d (.int k)] n = some (.d (.int i), n) := by
  have hlen : ∀ a b, lenS (faCons (fVar 0) faNil) [some (.d (scriptD ns)), some (.d (.int k)), a, b] n = some (.d (.int ns.length), n) := fun a b => len_ev rfl (sc_len ns)
  have hlt := bt (cmp_ev (g := ordD .Lt) (fa := fVar 1) (e := [some (.d (scriptD ns)), some (.d (.int k)), none, none]) rfl (hlen none none) (ordLt_int k ns.length))
  have heq : bT (fOp2 (seeB (eqD false)) (fVar 0) (fLst faNil)) [some (.d (scriptD ns)), some (.d (.int k)), none, none] n = some (ns.isEmpty, n) := by
    refine (bt (cmp_see (a := .list (ns.map PyData.int)) (b := .list []) rfl rfl rfl rfl (eq_nil false (shaped_ints ns)))).trans ?_
    rw [Bool.bne_false]
    cases ns <;> rfl
  by_cases hk : k < ns.length
  · exact ⟨ns[k], run_g rfl (g_seq_if hlt (fun _ => g_seq_ret (cmp_ev rfl rfl (sc_at hk))) (fun z => absurd (of_decide_eq_false z) (by omega)))⟩
  · by_cases h0 : ns.length = 0
    · exact ⟨0, run_g rfl (g_seq_if hlt (fun z => absurd (of_decide_eq_true z) (by omega)) (fun _ => g_nx (g_seq_if heq (fun _ => g_seq_ret rfl) (fun z => by cases ns with
        | nil => cases z
        | cons a b => exact absurd h0 (by rw [List.length_cons]; omega)))))⟩
    · have hm : ∀ a b, fOp2 (seeB modD) (fVar 1) (lenS (faCons (fVar 0) faNil)) [some (.d (scriptD ns)), some (.d (.int k)), a, b] n = some (.d (.int ((k % ns.length : Nat) : Int)), n) := fun a b => by
        refine cmp_ev rfl (hlen a b) ?_
        show (if (ns.length : Int) ≠ 0 then some (PyData.int ((k : Int).fmod ns.length)) else none) = _
        rw [if_pos (by omega), Int.fmod_eq_emod_of_nonneg _ (Int.natCast_nonneg _), ← Int.natCast_emod]
      have hml : k % ns.length < ns.length := Nat.mod_lt _ (by omega)
      have hix : ∀ a b, fOp2 (seeB ixD) (fVar 0) (fOp2 (seeB modD) (fVar 1) (lenS (faCons (fVar 0) faNil))) [some (.d (scriptD ns)), some (.d (.int k)), a, b] n = some (.d (.int ns[k % ns.length]), n) := fun a b => cmp_ev rfl (hm a b) (sc_at hml)
      obtain ⟨q, hq⟩ : ∃ q : Nat, q = k / ns.length := ⟨_, rfl⟩
      have hdv : fOp2 (seeB fdivD) (fVar 1) (lenS (faCons (fVar 0) faNil)) [some (.d (scriptD ns)), some (.d (.int k)), some (.d (.int ns[k % ns.length])), none] n = some (.d (.int (q : Int)), n) := by
        rw [hq]
        refine cmp_ev rfl (hlen _ _) ?_
        show (if (ns.length : Int) ≠ 0 ∧ (ns.length : Int).natAbs < 1073741824 then some (PyData.int ((k : Int).fdiv ns.length)) else none) = _
        rw [if_pos ⟨by omega, by omega⟩, Int.fdiv_eq_ediv_of_nonneg _ (Int.natCast_nonneg _), ← Int.natCast_ediv]
      have hit : ∃ xs, itRng1 (faCons (fBi minAG (faCons (fOp2 (seeB fdivD) (fVar 1) (lenS (faCons (fVar 0) faNil))) (faCons (fC (.int 60)) faNil))) faNil) [some (.d (scriptD ns)), some (.d (.int k)), some (.d (.int ns[k % ns.length])), none] n = some (xs, n) ∧ xs.length ≤ big := by
        refine ⟨intsUp 0 (if (60 : Int) < (q : Int) then (60 : Int) else (q : Int)).toNat, ?_, ?_⟩
        · have hs : smallI (if (60 : Int) < (q : Int) then (60 : Int) else (q : Int)) = true := by
            unfold smallI
            split <;> rw [decide_eq_true (by omega), decide_eq_true (by omega)] <;> rfl
          have h60 : ∀ e : Ev, fC (.int 60) e n = some (.d (.int 60), n) := fun _ => rfl
          simp [itRng1, faCons, fBi, hdv, h60, faNil, Sv.arg, minAG, min2G, hs]
        · unfold intsUp
          rw [List.length_map, List.length_range]
          have : (big : Int) = 100000 := rfl
          split <;> omega
      obtain ⟨xs, hit, hxs⟩ := hit
      obtain ⟨s', hl⟩ := cell_loop (.d (scriptD ns)) (.d (.int k)) n xs ns[k % ns.length]
      refine ⟨ns[k % ns.length] * 31 + k + s' * 101, run_g rfl (g_seq_if hlt (fun z => absurd (of_decide_eq_true z) (by omega)) (fun _ => g_nx (g_seq_if heq (fun z => ?_) (fun _ => g_nx (g_set (hix none none) rfl ?_)))))⟩
      · rw [List.isEmpty_iff.mp z] at h0
        exact absurd rfl h0
      · have hfin : Gives (sFrz [2] (sRet (fOp2 addL (fOp2 addL (fOp2 (seeB mulD) (fOp2 (seeB ixD) (fVar 0) (fOp2 (seeB modD) (fVar 1) (lenS (faCons (fVar 0) faNil)))) (fC (.int 31))) (fVar 1)) (fOp2 (seeB mulD) (fVar 2) (fC (.int 101)))))) [some (.d (scriptD ns)), some (.d (.int k)), some (.d (.int s')), none] n (.d (.int (ns[k % ns.length] * 31 + k + s' * 101))) n :=
          g_frz (g_ret (add_ev (add_ev (mul_ev (hix _ _) rfl (by decide)) rfl) (mul_ev rfl rfl (by decide))))
        obtain ⟨e', hfin⟩ := hfin
        refine ⟨e', ?_⟩
        show sSeq (sFor _ _ _ _) _ [some (.d (scriptD ns)), some (.d (.int k)), some (.d (.int ns[k % ns.length])), none] n = _
        simp only [sSeq, sFor, hit, if_pos hxs, hl]
        exact hfin
theorem mod_in {a : Int} {m : Nat} (h : 0 < m) : ∃ i : Nat, i < m ∧ modD (.int a) (.int (m : Int)) = some (.int (i : Int)) := by
  refine ⟨(a.fmod m).toNat, ?_, ?_⟩
  · have h1 := Int.fmod_nonneg_of_pos a (show (0 : Int) < m by omega)
    have h2 := Int.fmod_lt_of_pos a (show (0 : Int) < m by omega)
    omega
  · have h1 := Int.fmod_nonneg_of_pos a (show (0 : Int) < m by omega)
    show (if (m : Int) ≠ 0 then some (PyData.int (a.fmod m)) else none) = _
    rw [if_pos (by omega), Int.toNat_of_nonneg h1]
theorem m_mixed (ns : List Int) (hn : ns.length ≤ 63) (k n many : Nat) (hk : k ≤ 100000) (hm : 0 < many) : ∃ i : Nat, i < many ∧ F_mixed [.d (scriptD ns), .d (.int k), .d (.int many)] n = some (.d (.int i), n) := by
  obtain ⟨c, hc⟩ := m_cell ns hn k n
  obtain ⟨s, hs, es⟩ := mod_in (a := c * 1103515245 + 7919 * k + 12345) (m := 2147483647) (by omega)
  obtain ⟨i1, h1, e1⟩ := mod_in (a := (s : Int) ^ 5) (m := 2147483647) (by omega)
  obtain ⟨i2, h2, e2⟩ := mod_in (a := (i1 : Int)) (m := 999983) (by omega)
  obtain ⟨i3, h3, e3⟩ := mod_in (a := (i2 : Int)) (m := many) hm
  have hp : powD (.int (s : Int)) (.int 5) = some (.int ((s : Int) ^ 5)) := by
    show (if (0 : Int) ≤ 5 ∧ (5 : Int) ≤ 1000000 ∧ (s : Int).natAbs < 2 ^ 64 then some (PyData.int ((s : Int) ^ 5)) else none) = _
    rw [if_pos ⟨by omega, by omega, by omega⟩]
  refine ⟨i3, h3, run_g rfl (g_set (sv := .d (.int s)) (n1 := n) ?_ rfl (g_frz (g_ret ?_)))⟩
  · exact cmp_ev (add_ev (add_ev (mul_ev (call_ev (as := [.d (scriptD ns), .d (.int k)]) rfl rfl hc) rfl (by decide)) (mul_ev (a := 7919) (b := (k : Int)) rfl rfl (by omega))) rfl) rfl es
  · exact cmp_ev (cmp_ev (cmp_ev (cmp_ev (a := .int s) rfl rfl hp) rfl e1) rfl e2) rfl e3
theorem fa_cM {f : FE} {g : FA} {e : Ev} {n n1 n2 : Nat} {a : Sv} {as : List Sv} (h1 : f e n = some (a, n1)) (h2 : g e n1 = some (as, n2)) : faCons f g e n = some (a.arg :: as, n2) := by
  simp only [faCons, h1, h2]
theorem m_draw (ns : List Int) (hn : ns.length ≤ 63) (n many : Nat) (hk : n < 100000) (hm : 0 < many) : ∃ i : Nat, i < many ∧ F_draw [.d (scriptD ns), .st, .d (.int many)] n = some (.d (.int i), n + 1) := by
  obtain ⟨i, hi, e⟩ := m_mixed ns hn (n + 1) (n + 1) many (by omega) hm
  refine ⟨i, hi, run_g rfl ?_⟩
  have hg : Gives (sRet (fCall 3 F_mixed (faCons (fVar 0) (faCons (lenS (faCons (fVar 1) faNil)) (faCons (fVar 2) faNil))))) [some (.d (scriptD ns)), some .st, some (.d (.int many))] (n + 1) (.d (.int i)) (n + 1) := g_ret (call_ev (as := [.d (scriptD ns), .d (.int ((n + 1 : Nat) : Int)), .d (.int many)]) (fa_cM (f := fVar 0) (a := .d (scriptD ns)) (n1 := n + 1) rfl (fa_cM (f := lenS (faCons (fVar 1) faNil)) (a := .d (.int ((n + 1 : Nat) : Int))) (n1 := n + 1) (if_pos (show n + 1 ≤ 100000 by omega)) rfl)) rfl e)
  obtain ⟨e', hg⟩ := hg
  refine ⟨e', ?_⟩
  have hd : sDraw 1 [some (.d (scriptD ns)), some .st, some (.d (.int many))] n = some (.nx, [some (.d (scriptD ns)), some .st, some (.d (.int many))], n + 1) := by
    show (if n < big then some (Fl.nx, [some (Sv.d (scriptD ns)), some Sv.st, some (Sv.d (.int many))], n + 1) else none) = _
    rw [if_pos (show n < big from hk)]
  show sSeq (sDraw 1) _ [some (.d (scriptD ns)), some .st, some (.d (.int many))] n = _
  simp only [sSeq, hd]
  exact hg
theorem m_pick (ns : List Int) (hn : ns.length ≤ 63) (n : Nat) (hk : n < 100000) {ds : List PyData} (hd : ds ≠ []) : ∃ x ∈ ds, F_pick [.d (scriptD ns), .st, .d (.tuple ds)] n = some (.d x, n + 1) := by
  obtain ⟨i, hi, e⟩ := m_draw ns hn n ds.length hk (List.length_pos_iff.mpr hd)
  refine ⟨ds[i], List.getElem_mem hi, run_g rfl (g_ret (cmp_ev (a := .tuple ds) (b := .int i) rfl (call_ev (as := [.d (scriptD ns), .st, .d (.int ds.length)]) rfl rfl e) (int_ix (.inl rfl) (List.getElem?_eq_getElem hi))))⟩
theorem tup_ev {f : FE} {e n n1 xs} (h : f e n = some (.cell xs, n1) ∨ f e n = some (.d (.list xs), n1)) : fBi (see1 tupG) (faCons f faNil) e n = some (.d (.tuple xs), n1) := by
  rcases h with h | h <;> simp [fBi, faCons, h, faNil, Sv.arg, see1, Sv.see, tupG]
theorem erase_perm {α : Type} : ∀ {l : List α} {i : Nat} (h : i < l.length), (l[i] :: l.eraseIdx i).Perm l
  | x :: l, 0, _ => .refl _
  | x :: l, i + 1, h => by
    have h' : i < l.length := by rw [List.length_cons] at h; omega
    rw [List.getElem_cons_succ, List.eraseIdx_cons_succ]
    exact (List.Perm.swap x l[i] (l.eraseIdx i)).trans ((erase_perm h').cons x)
/-! some of a list -/
theorem sortOk_sub {xs ys : List PyData} (h : sortOk xs = true) (hs : ∀ y ∈ ys, y ∈ xs) (hl : ys.length ≤ xs.length) : sortOk ys = true := by
  unfold sortOk at h ⊢
  simp only [Bool.and_eq_true, List.all_eq_true, Bool.or_eq_true, decide_eq_true_eq] at h ⊢
  obtain ⟨⟨⟨h1, h2⟩, h3⟩, h4⟩ := h
  refine ⟨⟨⟨fun a ha b hb => h1 a (hs a ha) b (hs b hb), ?_⟩, fun a ha => h3 a (hs a ha)⟩, by omega⟩
  rcases h2 with h2 | h2
  · exact .inl fun a ha => h2 a (hs a ha)
  · exact .inr fun a ha => h2 a (hs a ha)
theorem some_loop (ns : List Int) (hn : ns.length ≤ 63) (a : Sv) (c : Nat) (xs : List PyData) (hsh : ∀ ys : List PyData, (∀ y ∈ ys, y ∈ xs) → SeqAt.shaped (.list ys) = true) (hx : xs.length ≤ 1000) : ∀ (f n : Nat) (left found : List PyData), left.length < f → n + left.length < 100000 → (left ++ found).Perm xs → found.length ≤ c → 
    ∃ left' found' n', whL (tAndF (bT (fOp2 (seeB (eqD true)) (fVar 4) (fLst faNil))) (bT (fOp2 (seeB (ordD .Lt)) (lenS (faCons (fVar 5) faNil)) (fVar 3)))) [] (sAppPop 5 4 (fCall 3 F_draw (faCons (fVar 0) (faCons (fVar 1) (faCons (lenS (faCons (fVar 4) faNil)) faNil))))) f [some (.d (scriptD ns)), some .st, some a, some (.d (.int c)), some (.cell left), some (.cell found)] n = some (.nx, [some (.d (scriptD ns)), some .st, some a, some (.d (.int c)), some (.cell left'), some (.cell found')], n') ∧ n ≤ n' ∧ n' ≤ n + left.length ∧ (left' ++ found').Perm xs ∧ found'.length ≤ c ∧ (left' = [] ∨ found'.length = c)
  | 0, n, left, found, hf, _, _, _ => absurd hf (by omega)
  | f + 1, n, left, found, hf, hb, hp, hc => by
    have hl : left.length + found.length = xs.length := by rw [← List.length_append]; exact hp.length_eq
    have hbig : (big : Int) = 100000 := rfl
    have h1 : bT (fOp2 (seeB (eqD true)) (fVar 4) (fLst faNil)) [some (.d (scriptD ns)), some .st, some a, some (.d (.int c)), some (.cell left), some (.cell found)] n = some (!left.isEmpty, n) := by
      refine (bt (cmp_see (a := .list left) (b := .list []) rfl rfl rfl rfl (eq_nil true (hsh left fun y hy => hp.mem_iff.mp (List.mem_append_left _ hy))))).trans ?_
      rw [Bool.bne_true]
    have h2 : bT (fOp2 (seeB (ordD .Lt)) (lenS (faCons (fVar 5) faNil)) (fVar 3)) [some (.d (scriptD ns)), some .st, some a, some (.d (.int c)), some (.cell left), some (.cell found)] n = some (decide ((found.length : Int) < c), n) := bt (cmp_ev (a := .int found.length) (b := .int c) rfl rfl (ordLt_int _ _))
    have ht := and_t (g := bT (fOp2 (seeB (ordD .Lt)) (lenS (faCons (fVar 5) faNil)) (fVar 3))) h1
    rw [h2] at ht
    cases left with
    | nil => exact ⟨[], found, n, by simp only [whL, ht]; rfl, by omega, by omega, hp, hc, .inl rfl⟩
    | cons y r =>
      by_cases hcc : found.length < c
      · obtain ⟨i, hi, e⟩ := m_draw ns hn n (y :: r).length (by omega) (by rw [List.length_cons]; omega)
        have hcall : fCall 3 F_draw (faCons (fVar 0) (faCons (fVar 1) (faCons (lenS (faCons (fVar 4) faNil)) faNil))) [some (.d (scriptD ns)), some .st, some a, some (.d (.int c)), some (.cell (y :: r)), some (.cell found)] n = some (.d (.int i), n + 1) := call_ev (as := [.d (scriptD ns), .st, .d (.int (y :: r).length)]) rfl rfl e
        have hsi : seqIndex? (i : Int) (y :: r).length = some i := by
          rw [List.length_cons] at hi
          unfold seqIndex?
          simp [show ¬ ((i : Int) < 0) by omega]
          omega
        have hpp : ((y :: r).eraseIdx i ++ (found ++ [(y :: r)[i]])).Perm xs := by
          refine List.Perm.trans ?_ hp
          rw [← List.append_assoc]
          refine (List.perm_append_singleton _ _).trans ?_
          rw [← List.cons_append]
          exact List.Perm.append_right _ (erase_perm hi)
        have hel : ((y :: r).eraseIdx i).length = (y :: r).length - 1 := List.length_eraseIdx_of_lt hi
        have hsm : smallI (i : Int) = true := by
          unfold smallI
          rw [decide_eq_true (by omega), decide_eq_true (by omega)]
          rfl
        have hbody : sAppPop 5 4 (fCall 3 F_draw (faCons (fVar 0) (faCons (fVar 1) (faCons (lenS (faCons (fVar 4) faNil)) faNil)))) [some (.d (scriptD ns)), some .st, some a, some (.d (.int c)), some (.cell (y :: r)), some (.cell found)] n = some (.nx, [some (.d (scriptD ns)), some .st, some a, some (.d (.int c)), some (.cell ((y :: r).eraseIdx i)), some (.cell (found ++ [(y :: r)[i]]))], n + 1) := by
          unfold sAppPop
          rw [hcall]
          show (match seqIndex? (i : Int) (y :: r).length with
            | some k => (match (y :: r)[k]? with
              | some y' => if 5 ≠ 4 ∧ found.length < big ∧ smallI (i : Int) = true then _ else none
              | none => none)
            | none => none) = _
          rw [hsi]
          dsimp only
          rw [List.getElem?_eq_getElem hi]
          dsimp only
          rw [if_pos ⟨by omega, by omega, hsm⟩]
          rfl
        obtain ⟨l', f', n', q1, q2, q3, q4, q5, q6⟩ := some_loop ns hn a c xs hsh hx f (n + 1) ((y :: r).eraseIdx i) (found ++ [(y :: r)[i]]) (by rw [hel]; omega) (by rw [hel]; rw [List.length_cons] at *; omega) hpp (by rw [List.length_append]; show _ + 1 ≤ c; omega)
        refine ⟨l', f', n', ?_, by omega, by rw [hel] at q3; rw [List.length_cons] at *; omega, q4, q5, q6⟩
        rw [← q1]
        have ht' : tAndF (bT (fOp2 (seeB (eqD true)) (fVar 4) (fLst faNil))) (bT (fOp2 (seeB (ordD .Lt)) (lenS (faCons (fVar 5) faNil)) (fVar 3))) [some (.d (scriptD ns)), some .st, some a, some (.d (.int c)), some (.cell (y :: r)), some (.cell found)] n = some (true, n) := by
          rw [ht, decide_eq_true (by omega)]
          rfl
        simp only [whL, ht', hbody, wipeE]
      · refine ⟨y :: r, found, n, ?_, by omega, by omega, hp, hc, .inr (by omega)⟩
        have ht' : tAndF (bT (fOp2 (seeB (eqD true)) (fVar 4) (fLst faNil))) (bT (fOp2 (seeB (ordD .Lt)) (lenS (faCons (fVar 5) faNil)) (fVar 3))) [some (.d (scriptD ns)), some .st, some a, some (.d (.int c)), some (.cell (y :: r)), some (.cell found)] n = some (false, n) := by
          rw [ht, decide_eq_false (by omega)]
          rfl
        simp only [whL, ht']
theorem m_some_of (ns : List Int) (hn : ns.length ≤ 63) (n c : Nat) (xs : List PyData) (hsh : ∀ ys : List PyData, (∀ y ∈ ys, y ∈ xs) → SeqAt.shaped (.list ys) = true) (hx : xs.length ≤ 1000) (hb : n + xs.length < 100000) (ho : sortOk xs = true) :
    ∃ zs rest n', F_some_of [.d (scriptD ns), .st, .d (.list xs), .d (.int c)] n = some (.d (.tuple (sortD zs)), n') ∧ n ≤ n' ∧ n' ≤ n + xs.length ∧ (rest ++ zs).Perm xs ∧ zs.length ≤ c ∧ (rest = [] ∨ zs.length = c) := by
  obtain ⟨l', f', n', q1, q2, q3, q4, q5, q6⟩ := some_loop ns hn (.d (.list xs)) c xs hsh hx fuel n xs [] (by show _ < 100000; omega) hb (by rw [List.append_nil]) (Nat.zero_le _)
  refine ⟨f', l', n', run_g rfl ?_, q2, q3, q4, q5, q6⟩
  have hk : sortOk f' = true := sortOk_sub ho (fun y hy => q4.mem_iff.mp (List.mem_append_right _ hy)) (by
    have := q4.length_eq
    rw [List.length_append] at this
    omega)
  have hfin : Gives (sFrz [5] (sRet (fBi (see1 tupG) (faCons (fBi (see1 sortG) (faCons (fVar 5) faNil)) faNil)))) [some (.d (scriptD ns)), some .st, some (.d (.list xs)), some (.d (.int c)), some (.cell l'), some (.cell f')] n' (.d (.tuple (sortD f'))) n' := by
    have hs : fBi (see1 sortG) (faCons (fVar 5) faNil) [some (.d (scriptD ns)), some .st, some (.d (.list xs)), some (.d (.int c)), some (.cell l'), some (.d (.list f'))] n' = some (.cell (sortD f'), n') := by
      show (match (if sortOk f' = true then some (Sv.cell (sortD f')) else none) with
        | none => none
        | some r => some (r, n')) = _
      rw [if_pos hk]
    refine g_frz (g_ret ?_)
    show fBi (see1 tupG) (faCons (fBi (see1 sortG) (faCons (fVar 5) faNil)) faNil) [some (.d (scriptD ns)), some .st, some (.d (.list xs)), some (.d (.int c)), some (.cell l'), some (.d (.list f'))] n' = _
    exact tup_ev (.inl hs)
  obtain ⟨e', hfin⟩ := hfin
  refine ⟨e', ?_⟩
  have hw : sWhile (tAndF (bT (fOp2 (seeB (eqD true)) (fVar 4) (fLst faNil))) (bT (fOp2 (seeB (ordD .Lt)) (lenS (faCons (fVar 5) faNil)) (fVar 3)))) [] (sAppPop 5 4 (fCall 3 F_draw (faCons (fVar 0) (faCons (fVar 1) (faCons (lenS (faCons (fVar 4) faNil)) faNil))))) fuel [some (.d (scriptD ns)), some .st, some (.d (.list xs)), some (.d (.int c)), some (.cell xs), some (.cell [])] n = _ := q1
  show sSeq (sWhile _ _ _ _) _ [some (.d (scriptD ns)), some .st, some (.d (.list xs)), some (.d (.int c)), some (.cell xs), some (.cell [])] n = _
  simp only [sSeq, hw]
  exact hfin
end Sb
namespace Sb
open PySem PySem.Spec PyProof.Rows L2
/-! ### the generator: things, steps, recipes -/
theorem if_ev {t : FT} {f g : FE} {e n c n1} (h : t e n = some (c, n1)) : fIf t f g e n = if c = true then f e n1 else g e n1 := by
  cases c <;> simp [fIf, h]
/-- the reading q is nowhere -/
def noQ (t : PyData) : Bool := (seqD t).all fun x => match x with
  | .str z => decide (z ≠ "q")
  | _ => true
def okT (t : PyData) : Prop := ∃ es, t = .tuple es ∧ 1 ≤ es.length ∧ es.length ≤ 3 ∧ thingD t = true ∧ smD t = true ∧ noQ t = true
def THS : List PyData := [.tuple [.str "a", .str "b"], .tuple [.str "", .str "x"], .tuple [.str "ab", .str "ba"], .tuple [.str "", .str "a", .str "aab"], .tuple [.str "c"], .tuple [.str "b", .str "ca", .str "cb"]]
def cut2 : PyData → PyData
  | .tuple xs => .tuple (cutD xs none (some 2))
  | x => x
def okTb (t : PyData) : Bool := (match t with
  | .tuple es => decide (1 ≤ es.length) && decide (es.length ≤ 3)
  | _ => false) && thingD t && smD t && noQ t
theorem okT_of {t : PyData} (h : okTb t = true) : okT t := by
  cases t with
  | tuple es =>
    unfold okTb at h
    simp only [Bool.and_eq_true, decide_eq_true_eq] at h
    exact ⟨es, rfl, h.1.1.1.1, h.1.1.1.2, h.1.1.2, h.1.2, h.2⟩
  | _ => cases h
theorem THS_ok : (THS.all fun t => okTb t && okTb (cut2 t)) = true := by decide +kernel
theorem m_some_thing (ns : List Int) (hn : ns.length ≤ 63) (n : Nat) (hb : n < 99000) : ∃ t n', F_some_thing [.d (scriptD ns), .st] n = some (.d t, n') ∧ n ≤ n' ∧ n' ≤ n + 2 ∧ okT t := by
  obtain ⟨x, hx, e⟩ := m_pick ns hn n (by omega) (ds := THS) (by unfold THS; intro h; cases h)
  obtain ⟨i, hi, e2⟩ := m_draw ns hn (n + 1) 4 (by omega) (by omega)
  have hok := List.all_eq_true.mp THS_ok x hx
  rw [Bool.and_eq_true] at hok
  have hc := bt (cmp_ev (g := ordD .Gt) (fa := fCall 3 F_draw (faCons (fVar 0) (faCons (fVar 1) (faCons (fC (.int 4)) faNil)))) (fb := fC (.int 0)) (e := [some (.d (scriptD ns)), some .st, some (.d x)]) (n := n + 1) (call_ev (as := [.d (scriptD ns), .st, .d (.int (4 : Nat))]) rfl rfl e2) rfl (ordGt_int i 0))
  obtain ⟨es, ex, _⟩ := okT_of hok.1
  have main : ∀ t : PyData, (if (0 : Int) < (i : Int) then x else cut2 x) = t → Gives b_some_thing (argsE 3 2 [.d (scriptD ns), .st]) n (.d t) (n + 2) := by
    rintro t rfl
    refine g_set (sv := .d x) (n1 := n + 1) (call_ev (as := [.d (scriptD ns), .st, .d (.tuple THS)]) rfl rfl e) rfl (g_frz (g_ret ?_))
    refine (if_ev hc).trans ?_
    by_cases h : (0 : Int) < (i : Int)
    · rw [decide_eq_true h, if_pos rfl, if_pos h]
      rfl
    · rw [decide_eq_false h, if_neg Bool.false_ne_true, if_neg h, ex]
      rfl
  refine ⟨_, n + 2, run_g rfl (main _ rfl), by omega, by omega, ?_⟩
  split
  · exact okT_of hok.1
  · exact okT_of hok.2
/-! steps -/
def goodR (m s : Nat) (r : PyData) : Prop := ∃ (w : Str) (j : Nat), r = .tuple [.str w, .int (j : Int)] ∧ ((w = "thing" ∧ j < m) ∨ (w = "step" ∧ j < s))
theorem app_ev {i : Nat} {f : FE} {e n n1 xs} {y : PyData} (h : f e n = some (.d y, n1)) (hc : cellAt e i = some xs) (hl : xs.length < big) : sApp i f e n = some (.nx, e.set i (some (.cell (xs ++ [y]))), n1) := by
  simp [sApp, h, Sv.take, hc, hl]
theorem if_st {t : FT} {a b : FS} {e n c n1} (h : t e n = some (c, n1)) : sIf t a b e n = if c = true then a e n1 else b e n1 := by
  cases c <;> simp [sIf, h]
theorem pair_ev {w : Str} {f : FE} {e n n1} {i : Int} (h : f e n = some (.d (.int i), n1)) : fTup (faCons (fC (.str w)) (faCons f faNil)) e n = some (.d (.tuple [.str w, .int i]), n1) := by
  have h0 : fC (.str w) e n = some (.d (.str w), n) := rfl
  simp [fTup, faCons, h0, h, faNil, Sv.arg, keepAll]
  decide
def stepB : FS := (sIf (tOrF (bT (fOp2 (seeB (eqD false)) (fVar 3) (fC (.int 0)))) (bT (fOp2 (seeB (ordD .Lt)) (fCall 3 F_draw (faCons (fVar 0) (faCons (fVar 1) (faCons (fC (.int 5)) faNil)))) (fC (.int 3)))))
    (sApp 6 (fTup (faCons (fC (.str "thing")) (faCons (fCall 3 F_draw (faCons (fVar 0) (faCons (fVar 1) (faCons (fVar 2) faNil)))) faNil))))
    (sApp 6 (fTup (faCons (fC (.str "step")) (faCons (fCall 3 F_draw (faCons (fVar 0) (faCons (fVar 1) (faCons (fVar 3) faNil)))) faNil)))))
theorem step_one (ns : List Int) (hn : ns.length ≤ 63) (m s : Nat) (hm : 0 < m) (a b x : Option Sv) (rs : List PyData) (n : Nat) (hb : n < 99000) (hl : rs.length ≤ 100) (hr : ∀ r ∈ rs, goodR m s r) :
    ∃ r n', stepB [some (.d (scriptD ns)), some .st, some (.d (.int m)), some (.d (.int s)), a, b, some (.cell rs), x] n = some (.nx, [some (.d (scriptD ns)), some .st, some (.d (.int m)), some (.d (.int s)), a, b, some (.cell (rs ++ [r])), x], n') ∧ n ≤ n' ∧ n' ≤ n + 2 ∧ goodR m s r := by
  have hbig : rs.length < big := by
    show rs.length < 100000
    omega
  have h1 : bT (fOp2 (seeB (eqD false)) (fVar 3) (fC (.int 0))) [some (.d (scriptD ns)), some .st, some (.d (.int m)), some (.d (.int s)), a, b, some (.cell rs), x] n = some (decide ((s : Int) = 0), n) := bt (cmp_ev (a := .int s) (b := .int 0) rfl rfl (by show some (PyData.bool (decide ((s : Int) = 0) != false)) = _; rw [Bool.bne_false]))
  have thing : ∀ n0, n0 < 99500 → ∃ r, sApp 6 (fTup (faCons (fC (.str "thing")) (faCons (fCall 3 F_draw (faCons (fVar 0) (faCons (fVar 1) (faCons (fVar 2) faNil)))) faNil))) [some (.d (scriptD ns)), some .st, some (.d (.int m)), some (.d (.int s)), a, b, some (.cell rs), x] n0 = some (.nx, [some (.d (scriptD ns)), some .st, some (.d (.int m)), some (.d (.int s)), a, b, some (.cell (rs ++ [r])), x], n0 + 1) ∧ goodR m s r := fun n0 h0 => by
    obtain ⟨i, hi, e⟩ := m_draw ns hn n0 m (by omega) hm
    exact ⟨_, app_ev (pair_ev (call_ev (as := [.d (scriptD ns), .st, .d (.int m)]) rfl rfl e)) rfl hbig, _, i, rfl, .inl ⟨rfl, hi⟩⟩
  by_cases h0 : s = 0
  · obtain ⟨r, q, g⟩ := thing n (by omega)
    refine ⟨r, n + 1, ?_, by omega, by omega, g⟩
    unfold stepB
    rw [if_st (c := true) (n1 := n) (by rw [or_t h1, decide_eq_true (by omega), if_pos rfl]), if_pos rfl]
    exact q
  · obtain ⟨i, hi, e⟩ := m_draw ns hn n 5 (by omega) (by omega)
    have h2 := bt (cmp_ev (g := ordD .Lt) (fa := fCall 3 F_draw (faCons (fVar 0) (faCons (fVar 1) (faCons (fC (.int 5)) faNil)))) (fb := fC (.int 3)) (e := [some (.d (scriptD ns)), some .st, some (.d (.int m)), some (.d (.int s)), a, b, some (.cell rs), x]) (n := n) (call_ev (as := [.d (scriptD ns), .st, .d (.int (5 : Nat))]) rfl rfl e) rfl (ordLt_int i 3))
    have ht : tOrF (bT (fOp2 (seeB (eqD false)) (fVar 3) (fC (.int 0)))) (bT (fOp2 (seeB (ordD .Lt)) (fCall 3 F_draw (faCons (fVar 0) (faCons (fVar 1) (faCons (fC (.int 5)) faNil)))) (fC (.int 3)))) [some (.d (scriptD ns)), some .st, some (.d (.int m)), some (.d (.int s)), a, b, some (.cell rs), x] n = some (decide ((i : Int) < 3), n + 1) := by
      rw [or_t h1, decide_eq_false (by omega), if_neg Bool.false_ne_true]
      exact h2
    by_cases h3 : i < 3
    · obtain ⟨r, q, g⟩ := thing (n + 1) (by omega)
      refine ⟨r, n + 2, ?_, by omega, by omega, g⟩
      unfold stepB
      rw [if_st ht, decide_eq_true (by omega), if_pos rfl]
      exact q
    · obtain ⟨j, hj, e2⟩ := m_draw ns hn (n + 1) s (by omega) (by omega)
      refine ⟨_, n + 2, ?_, by omega, by omega, "step", j, rfl, .inr ⟨rfl, hj⟩⟩
      unfold stepB
      rw [if_st ht, decide_eq_false (by omega), if_neg Bool.false_ne_true]
      exact app_ev (pair_ev (call_ev (as := [.d (scriptD ns), .st, .d (.int s)]) rfl rfl e2)) rfl hbig
theorem step_loop (ns : List Int) (hn : ns.length ≤ 63) (m s : Nat) (hm : 0 < m) (a b : Option Sv) : ∀ (xs rs : List PyData) (n : Nat), n + 2 * xs.length < 99000 → rs.length + xs.length ≤ 100 → (∀ r ∈ rs, goodR m s r) →
    ∃ rs' n', forL (tgN 7) [7] stepB xs [some (.d (scriptD ns)), some .st, some (.d (.int m)), some (.d (.int s)), a, b, some (.cell rs), none] n = some (.nx, [some (.d (scriptD ns)), some .st, some (.d (.int m)), some (.d (.int s)), a, b, some (.cell rs'), none], n') ∧ n ≤ n' ∧ n' ≤ n + 2 * xs.length ∧ rs'.length = rs.length + xs.length ∧ ∀ r ∈ rs', goodR m s r
  | [], rs, n, _, _, hr => ⟨rs, n, rfl, by omega, by omega, rfl, hr⟩
  | x :: xs, rs, n, h1, h2, hr => by
    rw [List.length_cons] at h1 h2
    obtain ⟨r, n1, q, l1, l2, g⟩ := step_one ns hn m s hm a b (some (.d x)) rs n (by omega) (by omega) hr
    obtain ⟨rs', n2, q2, l3, l4, l5, l6⟩ := step_loop ns hn m s hm a b xs (rs ++ [r]) n1 (by omega) (by rw [List.length_append]; show _ + 1 + _ ≤ _; omega) (fun y hy => by
      rcases List.mem_append.mp hy with h | h
      · exact hr y h
      · rw [List.mem_singleton.mp h]; exact g)
    refine ⟨rs', n2, ?_, by omega, by rw [List.length_cons]; omega, by rw [l5, List.length_append, List.length_singleton, List.length_cons]; omega, l6⟩
    rw [← q2]
    have ht : tgN 7 x [some (.d (scriptD ns)), some .st, some (.d (.int m)), some (.d (.int s)), a, b, some (.cell rs), none] = some [some (.d (scriptD ns)), some .st, some (.d (.int m)), some (.d (.int s)), a, b, some (.cell rs), some (.d x)] := rfl
    have hw : wipeE [some (.d (scriptD ns)), some .st, some (.d (.int m)), some (.d (.int s)), a, b, some (.cell (rs ++ [r])), some (.d x)] [7] = [some (.d (scriptD ns)), some .st, some (.d (.int m)), some (.d (.int s)), a, b, some (.cell (rs ++ [r])), none] := rfl
    simp only [forL, ht, q, hw]
def STN : List PyData := [.str "join", .str "join", .str "less", .str "same", .str "pick", .str "sort", .str "turn", .str "first", .str "rest"]
def stnOk : PyData → Bool
  | .str o => match lookM mREADINGS' o with
    | some k => decide (0 ≤ k) && decide (k ≤ 3) && decide ((match valV (mergeK [] (litKV [("join", 2), ("less", 2), ("same", 2), ("pick", 3)])) (Sum.inr o) with
        | some (.int i) => some i
        | none => some 1
        | _ => none) = some k)
    | none => false
  | _ => false
theorem STN_ok : STN.all stnOk = true := by decide +kernel
def goodS (m s : Nat) (d : PyData) : Prop := ∃ (o : Str) (rs : List PyData), d = .tuple [.str o, .tuple rs] ∧ lookM mREADINGS' o = some (rs.length : Int) ∧ rs.length ≤ 3 ∧ o.length ≤ 10 ∧ ∀ r ∈ rs, goodR m s r
theorem g_par {i j : Nat} {f g : FE} {rest : FS} {e n a n1 b n2 v n'} (h1 : f e n = some (a, n1)) (h2 : g e n1 = some (b, n2)) (ha : a.own = true) (hb : b.own = true) (k : Gives rest ((e.set i (some a)).set j (some b)) n2 v n') : Gives (sSeq (sPar i j f g) rest) e n v n' := by
  obtain ⟨e', q⟩ := k
  refine ⟨e', ?_⟩
  simp only [sSeq, sPar, h1, h2, ha, hb, and_self, if_true]
  exact q
/-- a loop that runs through -/
theorem g_run {it : FI} {tg : FG} {wp : List Nat} {body rest : FS} {e e1 : Ev} {n n1 n2 : Nat} {xs : List PyData} {v n'} (hit : it e n = some (xs, n1)) (hl : xs.length ≤ big) (h : forL tg wp body xs e n1 = some (.nx, e1, n2)) (k : Gives rest e1 n2 v n') : Gives (sSeq (sFor it tg wp body) rest) e n v n' := by
  obtain ⟨e', q⟩ := k
  exact ⟨e', by simp only [sSeq, sFor, hit, if_pos hl, h]; exact q⟩
theorem STN_len : (STN.all fun d => match d with
    | .str o => decide (o.length ≤ 10)
    | _ => false) = true := by decide +kernel
theorem m_some_step (ns : List Int) (hn : ns.length ≤ 63) (m s n : Nat) (hm : 0 < m) (hb : n < 98000) : ∃ d n', F_some_step [.d (scriptD ns), .st, .d (.int m), .d (.int s)] n = some (.d d, n') ∧ n ≤ n' ∧ n' ≤ n + 7 ∧ goodS m s d := by
  obtain ⟨x, hx, e⟩ := m_pick ns hn n (by omega) (ds := STN) (by unfold STN; intro h; cases h)
  have hok := List.all_eq_true.mp STN_ok x hx
  have hlen := List.all_eq_true.mp STN_len x hx
  cases x with
  | str o =>
    have hlen := of_decide_eq_true hlen
    cases q : lookM mREADINGS' o with
    | none =>
      unfold stnOk at hok
      simp only [q] at hok
      cases hok
    | some k =>
      unfold stnOk at hok
      simp only [q, Bool.and_eq_true, decide_eq_true_eq] at hok
      obtain ⟨⟨k0, k3⟩, hv⟩ := hok
      have hk : k = ((k.toNat : Nat) : Int) := by omega
      have hup : (intsUp 0 k.toNat).length = k.toNat := by unfold intsUp; rw [List.length_map, List.length_range]
      obtain ⟨rs, n', q2, l1, l2, l3, l4⟩ := step_loop ns hn m s hm (some (.d (.tuple STN))) (some (.d (.str o))) (intsUp 0 k.toNat) [] (n + 1) (by rw [hup]; omega) (by rw [hup]; show 0 + _ ≤ _; omega) (fun r hr => by cases hr)
      rw [hup] at l2 l3
      have l3 : rs.length = k.toNat := by
        rw [l3]
        exact Nat.zero_add _
      have hg : fGetLit [("join", 2), ("less", 2), ("same", 2), ("pick", 3)] (fVar 5) (fC (.int 1)) [some (.d (scriptD ns)), some .st, some (.d (.int m)), some (.d (.int s)), some (.d (.tuple STN)), some (.d (.str o)), some (.cell []), none] (n + 1) = some (.d (.int k), n + 1) := by
        show (match valV (mergeK [] (litKV [("join", 2), ("less", 2), ("same", 2), ("pick", 3)])) (Sum.inr o) with
          | some (.int i) => some (Sv.d (.int i), n + 1)
          | none => some (Sv.d (.int 1), n + 1)
          | _ => none) = _
        revert hv
        cases valV (mergeK [] (litKV [("join", 2), ("less", 2), ("same", 2), ("pick", 3)])) (Sum.inr o) with
        | none => intro hv; injection hv with hv; rw [← hv]
        | some y =>
          cases y with
          | int i => intro hv; injection hv with hv; rw [← hv]
          | _ => intro hv; cases hv
      have hs : smallI k = true := by
        unfold smallI
        rw [decide_eq_true (by omega), decide_eq_true (by omega)]
        rfl
      have hit : itRng1 (faCons (fGetLit [("join", 2), ("less", 2), ("same", 2), ("pick", 3)] (fVar 5) (fC (.int 1))) faNil) [some (.d (scriptD ns)), some .st, some (.d (.int m)), some (.d (.int s)), some (.d (.tuple STN)), some (.d (.str o)), some (.cell []), none] (n + 1) = some (intsUp 0 k.toNat, n + 1) := by
        simp [itRng1, faCons, hg, faNil, Sv.arg, hs]
      refine ⟨.tuple [.str o, .tuple rs], n', run_g rfl ?_, by omega, by omega, o, rs, rfl, by rw [q, l3, ← hk], by omega, hlen, l4⟩
      refine g_set (sv := .d (.tuple STN)) (n1 := n) rfl rfl (g_par (a := .d (.str o)) (b := .cell []) (call_ev (as := [.d (scriptD ns), .st, .d (.tuple STN)]) rfl rfl e) rfl rfl rfl (g_run hit (by rw [hup]; show _ ≤ 100000; omega) q2 (g_frz (g_ret rfl))))
  | _ => cases hok
/-! recipes -/
theorem lc_things (ns : List Int) (hn : ns.length ≤ 63) (e : Ev) (h0 : e[0]? = some (some (.d (scriptD ns)))) (h1 : e[1]? = some (some .st)) : ∀ (xs : List PyData) (n : Nat), n + 2 * xs.length < 99000 →
    ∃ ts n', lcL (tgN 2) [2] tT (fCall 2 F_some_thing (faCons (fVar 0) (faCons (fVar 1) faNil))) xs e n = some (ts, n') ∧ n ≤ n' ∧ n' ≤ n + 2 * xs.length ∧ ts.length = xs.length ∧ ∀ t ∈ ts, okT t
  | [], n, _ => ⟨[], n, rfl, by omega, by omega, rfl, fun t h => by cases h⟩
  | x :: xs, n, hb => by
    rw [List.length_cons] at hb
    obtain ⟨t, n1, q, l1, l2, g⟩ := m_some_thing ns hn n (by omega)
    obtain ⟨ts, n2, q2, l3, l4, l5, l6⟩ := lc_things ns hn e h0 h1 xs n1 (by omega)
    refine ⟨t :: ts, n2, ?_, by omega, by rw [List.length_cons]; omega, by rw [List.length_cons, List.length_cons, l5], fun y hy => by
      rcases List.mem_cons.mp hy with h | h
      · rw [h]; exact g
      · exact l6 y h⟩
    have a0 : fVar 0 ((wipeE e [2]).set 2 (some (.d x))) n = some (.d (scriptD ns), n) := by
      unfold fVar
      rw [wipeE, wipeE, List.getElem?_set_ne (by decide), List.getElem?_set_ne (by decide), h0]
    have a1 : fVar 1 ((wipeE e [2]).set 2 (some (.d x))) n = some (.st, n) := by
      unfold fVar
      rw [wipeE, wipeE, List.getElem?_set_ne (by decide), List.getElem?_set_ne (by decide), h1]
    have hc : fCall 2 F_some_thing (faCons (fVar 0) (faCons (fVar 1) faNil)) ((wipeE e [2]).set 2 (some (.d x))) n = some (.d t, n1) := call_ev (as := [.d (scriptD ns), .st]) (by simp [faCons, a0, a1, faNil, Sv.arg]) rfl q
    simp only [lcL, tgN, tT, hc, Sv.take, q2]
theorem steps_loop (ns : List Int) (hn : ns.length ≤ 63) (a : List PyData) (b : Option Sv) (ha : 0 < a.length) : ∀ (xs ss : List PyData) (n : Nat), n + 7 * xs.length < 98000 → ss.length + xs.length ≤ 100 → (∀ (j : Nat) (d : PyData), ss[j]? = some d → goodS a.length j d) →
    ∃ ss' n', forL (tgN 2) [2] (sApp 4 (fCall 4 F_some_step (faCons (fVar 0) (faCons (fVar 1) (faCons (lenS (faCons (fVar 3) faNil)) (faCons (lenS (faCons (fVar 4) faNil)) faNil)))))) xs [some (.d (scriptD ns)), some .st, none, some (.d (.tuple a)), some (.cell ss), b] n = some (.nx, [some (.d (scriptD ns)), some .st, none, some (.d (.tuple a)), some (.cell ss'), b], n') ∧ n ≤ n' ∧ n' ≤ n + 7 * xs.length ∧ ss'.length = ss.length + xs.length ∧ ∀ (j : Nat) (d : PyData), ss'[j]? = some d → goodS a.length j d
  | [], ss, n, _, _, hr => ⟨ss, n, rfl, by omega, by omega, rfl, hr⟩
  | x :: xs, ss, n, h1, h2, hr => by
    rw [List.length_cons] at h1 h2
    obtain ⟨d, n1, q, l1, l2, g⟩ := m_some_step ns hn a.length ss.length n ha (by omega)
    obtain ⟨ss', n2, q2, l3, l4, l5, l6⟩ := steps_loop ns hn a b ha xs (ss ++ [d]) n1 (by omega) (by rw [List.length_append, List.length_singleton]; omega) (fun j y hy => by
      by_cases hj : j < ss.length
      · rw [List.getElem?_append_left hj] at hy
        exact hr j y hy
      · rw [List.getElem?_append_right (by omega)] at hy
        have hl := (List.getElem?_eq_some_iff.mp hy).1
        rw [List.length_singleton] at hl
        have hj0 : j - ss.length = 0 := by omega
        rw [hj0] at hy
        injection hy with hy
        have : j = ss.length := by omega
        rw [← hy, this]
        exact g)
    refine ⟨ss', n2, ?_, by omega, by rw [List.length_cons]; omega, by rw [l5, List.length_append, List.length_singleton, List.length_cons]; omega, l6⟩
    rw [← q2]
    have hbig : ss.length < big := by
      show ss.length < 100000
      omega
    have ht : tgN 2 x [some (.d (scriptD ns)), some .st, none, some (.d (.tuple a)), some (.cell ss), b] = some [some (.d (scriptD ns)), some .st, some (.d x), some (.d (.tuple a)), some (.cell ss), b] := rfl
    have hq : sApp 4 (fCall 4 F_some_step (faCons (fVar 0) (faCons (fVar 1) (faCons (lenS (faCons (fVar 3) faNil)) (faCons (lenS (faCons (fVar 4) faNil)) faNil))))) [some (.d (scriptD ns)), some .st, some (.d x), some (.d (.tuple a)), some (.cell ss), b] n = some (.nx, [some (.d (scriptD ns)), some .st, some (.d x), some (.d (.tuple a)), some (.cell (ss ++ [d])), b], n1) := app_ev (call_ev (as := [.d (scriptD ns), .st, .d (.int a.length), .d (.int ss.length)]) rfl rfl q) rfl hbig
    have hw : wipeE [some (.d (scriptD ns)), some .st, some (.d x), some (.d (.tuple a)), some (.cell (ss ++ [d])), b] [2] = [some (.d (scriptD ns)), some .st, none, some (.d (.tuple a)), some (.cell (ss ++ [d])), b] := rfl
    simp only [forL, ht, hq, hw]
theorem ints_of {k : Nat} : ∀ ys : List PyData, (∀ y ∈ ys, y ∈ intsUp 0 k) → ∃ js : List Nat, ys = js.map (fun (j : Nat) => PyData.int (j : Int)) ∧ ∀ j ∈ js, j < k
  | [], _ => ⟨[], rfl, fun j h => by cases h⟩
  | y :: ys, h => by
    obtain ⟨js, e, hj⟩ := ints_of ys fun z hz => h z (List.mem_cons_of_mem _ hz)
    have hy := h y List.mem_cons_self
    unfold intsUp at hy
    obtain ⟨i, hi, rfl⟩ := List.mem_map.mp hy
    refine ⟨i :: js, ?_, fun j hj' => ?_⟩
    · rw [List.map_cons, ← e]
      congr 2
      omega
    · rcases List.mem_cons.mp hj' with g | g
      · rw [g]; exact List.mem_range.mp hi
      · exact hj j g
theorem shaped_nats (js : List Nat) : SeqAt.shaped (.list (js.map (fun (j : Nat) => PyData.int (j : Int)))) = true := by
  have := shaped_ints (js.map fun (j : Nat) => (j : Int))
  rw [List.map_map] at this
  exact this
theorem sortOk_ints {k : Nat} (hk : k ≤ 1000) : sortOk (intsUp 0 k) = true := by
  unfold sortOk
  have hi : ∀ d ∈ intsUp 0 k, ∃ i : Int, d = .int i := fun d hd => by
    unfold intsUp at hd
    obtain ⟨i, hi, rfl⟩ := List.mem_map.mp hd
    exact ⟨_, rfl⟩
  have hl : (intsUp 0 k).length ≤ big := by
    unfold intsUp
    rw [List.length_map, List.length_range]
    show k ≤ 100000
    omega
  simp only [Bool.and_eq_true, List.all_eq_true, Bool.or_eq_true, decide_eq_true_eq]
  refine ⟨⟨⟨fun a ha b hb => ?_, .inr fun a ha => ?_⟩, fun a ha => ?_⟩, hl⟩
  · obtain ⟨i, rfl⟩ := hi a ha
    obtain ⟨j, rfl⟩ := hi b hb
    rfl
  · obtain ⟨i, rfl⟩ := hi a ha
    rfl
  · obtain ⟨i, rfl⟩ := hi a ha
    rw [PyData.depth]
    omega
structure RecOk (r : PyData) (ts ss ms : List PyData) : Prop where
  eq : r = .tuple [.tuple ts, .tuple ss, .tuple ms]
  t1 : 1 ≤ ts.length
  t3 : ts.length ≤ 3
  th : ∀ t ∈ ts, okT t
  s1 : 1 ≤ ss.length
  s5 : ss.length ≤ 5
  st : ∀ (j : Nat) (d : PyData), ss[j]? = some d → goodS ts.length j d
  md : ms = [.int ((ss.length - 1 : Nat) : Int)] ∨ ∃ j : Nat, j < ss.length - 1 ∧ ms = [.int (j : Int), .int ((ss.length - 1 : Nat) : Int)]
theorem m_some_recipe (ns : List Int) (hn : ns.length ≤ 63) (n : Nat) (hb : n < 90000) : ∃ r n' ts ss ms, F_some_recipe [.d (scriptD ns), .st] n = some (.d r, n') ∧ n ≤ n' ∧ n' ≤ n + 100 ∧ RecOk r ts ss ms := by
  have upl : ∀ k, (intsUp 0 k).length = k := fun k => by unfold intsUp; rw [List.length_map, List.length_range]
  have sm : ∀ k : Nat, k < 100 → smallI (k : Int) = true := fun k hk => by
    unfold smallI
    rw [decide_eq_true (by omega), decide_eq_true (by omega)]
    rfl
  have it1 : ∀ (e : Ev) (f : FE) (n n1 : Nat) (i : Nat), i < 99 → f e n = some (.d (.int i), n1) → itRng1 (faCons (fOp2 addL (fC (.int 1)) f) faNil) e n = some (intsUp 0 (1 + i), n1) := fun e f n n1 i hi h => by
    have h0 : fC (.int 1) e n = some (.d (.int 1), n) := rfl
    have h1 : fOp2 addL (fC (.int 1)) f e n = some (.d (.int ((1 + i : Nat) : Int)), n1) := add_ev h0 h
    simp only [itRng1, faCons, h1, faNil, Sv.arg]
    rw [if_pos (sm (1 + i) (by omega)), Int.toNat_natCast]
  obtain ⟨i, hi, e1⟩ := m_draw ns hn n 3 (by omega) (by omega)
  have c1 : ∀ e : Ev, e[0]? = some (some (.d (scriptD ns))) → e[1]? = some (some .st) → fCall 3 F_draw (faCons (fVar 0) (faCons (fVar 1) (faCons (fC (.int 3)) faNil))) e n = some (.d (.int i), n + 1) := fun e h0 h1 => call_ev (as := [.d (scriptD ns), .st, .d (.int (3 : Nat))]) (by
    have a0 : fVar 0 e n = some (.d (scriptD ns), n) := by unfold fVar; rw [h0]
    have a1 : fVar 1 e n = some (.st, n) := by unfold fVar; rw [h1]
    have a2 : fC (.int 3) e n = some (.d (.int (3 : Nat)), n) := rfl
    simp only [faCons, a0, a1, a2, faNil, Sv.arg]) rfl e1
  obtain ⟨ts, n2, q2, l1, l2, l3, l4⟩ := lc_things ns hn [some (.d (scriptD ns)), some .st, none, none, none, none] rfl rfl (intsUp 0 (1 + i)) (n + 1) (by rw [upl]; omega)
  rw [upl] at l2 l3
  obtain ⟨k, hk, e3⟩ := m_draw ns hn n2 5 (by omega) (by omega)
  obtain ⟨ss, n4, q4, l5, l6, l7, l8⟩ := steps_loop ns hn ts none (by omega) (intsUp 0 (1 + k)) [] (n2 + 1) (by rw [upl]; omega) (by rw [upl]; show 0 + _ ≤ _; omega) (fun j d h => by cases h)
  rw [upl] at l6 l7
  have l7 : ss.length = 1 + k := by
    rw [l7]
    exact Nat.zero_add _
  obtain ⟨c, hc, e5⟩ := m_draw ns hn n4 2 (by omega) (by omega)
  obtain ⟨zs, rest, n6, q6, l9, l10, pm, zl, _⟩ := m_some_of ns hn (n4 + 1) c (intsUp 0 ss.length) (fun ys hy => by
    obtain ⟨js, e, _⟩ := ints_of ys hy
    rw [e]
    exact shaped_nats js) (by rw [upl]; omega) (by rw [upl]; omega) (sortOk_ints (by omega))
  rw [upl] at l10
  have hlist : lenS (faCons (fVar 4) faNil) [some (.d (scriptD ns)), some .st, none, some (.d (.tuple ts)), some (.cell ss), none] n4 = some (.d (.int ss.length), n4) := rfl
  have hrg : fListRg (lenS (faCons (fVar 4) faNil)) [some (.d (scriptD ns)), some .st, none, some (.d (.tuple ts)), some (.cell ss), none] n4 = some (.cell (intsUp 0 ss.length), n4) := by
    show (if 0 ≤ (ss.length : Int) ∧ (ss.length : Int) ≤ (big : Int) then some (Sv.cell (intsUp 0 ((ss.length : Int)).toNat), n4) else none) = _
    have : (big : Int) = 100000 := rfl
    rw [if_pos ⟨by omega, by omega⟩, Int.toNat_natCast]
  have zmem : ∀ y ∈ zs, y ∈ intsUp 0 ss.length := fun y hy => pm.mem_iff.mp (List.mem_append_right _ hy)
  obtain ⟨js, ez, hjs⟩ := ints_of zs zmem
  have hz : sortD zs = zs := by
    match zs, zl with
    | [], _ => simp [sortD]
    | [z], _ => simp [sortD]
    | _ :: _ :: _, h => exact absurd h (by show ¬ (_ + 1 + 1 ≤ c); omega)
  have last : ∃ ms, (ms = [.int ((ss.length - 1 : Nat) : Int)] ∨ ∃ j : Nat, j < ss.length - 1 ∧ ms = [PyData.int (j : Int), .int ((ss.length - 1 : Nat) : Int)]) ∧ ∃ is, intsD (zs ++ [.int ((ss.length : Int) - 1)]) = some is ∧ is.length < 64 ∧ (sortI is).map PyData.int = ms := by
    have eL : (ss.length : Int) - 1 = ((ss.length - 1 : Nat) : Int) := by omega
    rw [eL]
    match js, ez, hjs with
    | [], ez, _ =>
      subst ez
      exact ⟨_, .inl rfl, [((ss.length - 1 : Nat) : Int)], rfl, by simp, by rw [← sortI_eq (ms := [((ss.length - 1 : Nat) : Int)]) (by simp) (by simp)]; rfl⟩
    | [j], ez, hj =>
      subst ez
      have hj := hj j List.mem_cons_self
      by_cases hjl : j = ss.length - 1
      · refine ⟨_, .inl rfl, [(j : Int), ((ss.length - 1 : Nat) : Int)], rfl, by simp, ?_⟩
        rw [← sortI_eq (ms := [((ss.length - 1 : Nat) : Int)]) (by simp) (by intro q; rw [hjl]; simp)]
        rfl
      · refine ⟨_, .inr ⟨j, by omega, rfl⟩, [(j : Int), ((ss.length - 1 : Nat) : Int)], rfl, by simp, ?_⟩
        rw [← sortI_eq (ms := [(j : Int), ((ss.length - 1 : Nat) : Int)]) (by simp; omega) (by intro q; rfl)]
        rfl
    | a :: b :: r, ez, _ =>
      exfalso
      rw [ez, List.length_map] at zl
      exact absurd zl (by show ¬ (_ + 1 + 1 ≤ c); omega)
  obtain ⟨ms, hms, is, hi1, hi2, hi3⟩ := last
  refine ⟨.tuple [.tuple ts, .tuple ss, .tuple ms], n6, ts, ss, ms, run_g rfl ?_, by omega, by omega, rfl, by omega, by omega, l4, by omega, by omega, l8, hms⟩
  refine g_set (sv := .d (.tuple ts)) (n1 := n2) ?_ rfl (g_set (sv := .cell []) (n1 := n2) rfl rfl (g_run (n1 := n2 + 1) (xs := intsUp 0 (1 + k)) ?_ (by rw [upl]; show _ ≤ 100000; omega) q4 (g_set (sv := .d (.tuple zs)) (n1 := n6) ?_ rfl (g_frz (g_ret ?_)))))
  · refine tup_ev (.inl ?_)
    show fLc _ _ _ _ _ [some (.d (scriptD ns)), some .st, none, none, none, none] n = _
    have h0 := it1 [some (.d (scriptD ns)), some .st, none, none, none, none] _ n (n + 1) i (by omega) (c1 [some (.d (scriptD ns)), some .st, none, none, none, none] rfl rfl)
    simp only [fLc, h0, q2]
    rw [if_pos (by rw [upl]; show _ ≤ 100000; omega)]
  · exact it1 _ _ n2 (n2 + 1) k (by omega) (call_ev (as := [.d (scriptD ns), .st, .d (.int (5 : Nat))]) rfl rfl e3)
  · rw [← hz]
    refine call_ev (as := [.d (scriptD ns), .st, .d (.list (intsUp 0 ss.length)), .d (.int c)]) ?_ rfl q6
    have hcall : fCall 3 F_draw (faCons (fVar 0) (faCons (fVar 1) (faCons (fC (.int 2)) faNil))) [some (.d (scriptD ns)), some .st, none, some (.d (.tuple ts)), some (.cell ss), none] n4 = some (.d (.int c), n4 + 1) := call_ev (as := [.d (scriptD ns), .st, .d (.int (2 : Nat))]) rfl rfl e5
    have a0 : fVar 0 [some (.d (scriptD ns)), some .st, none, some (.d (.tuple ts)), some (.cell ss), none] n4 = some (.d (scriptD ns), n4) := rfl
    have a1 : fVar 1 [some (.d (scriptD ns)), some .st, none, some (.d (.tuple ts)), some (.cell ss), none] n4 = some (.st, n4) := rfl
    show faCons _ _ [some (.d (scriptD ns)), some .st, none, some (.d (.tuple ts)), some (.cell ss), none] n4 = _
    simp only [faCons, a0, a1, hrg, hcall, faNil, Sv.arg]
  · have hs : fSortI (faCons (fOp2 addL (fVar 5) (fTup (faCons (fOp2 (seeB subD) (lenS (faCons (fVar 4) faNil)) (fC (.int 1))) faNil))) faNil) [some (.d (scriptD ns)), some .st, none, some (.d (.tuple ts)), some (.d (.list ss)), some (.d (.tuple zs))] n6 = some (.cell ms, n6) := by
      have hT : fTup (faCons (fOp2 (seeB subD) (lenS (faCons (fVar 4) faNil)) (fC (.int 1))) faNil) [some (.d (scriptD ns)), some .st, none, some (.d (.tuple ts)), some (.d (.list ss)), some (.d (.tuple zs))] n6 = some (.d (.tuple [.int ((ss.length : Int) - 1)]), n6) := rfl
      have h5 : fVar 5 [some (.d (scriptD ns)), some .st, none, some (.d (.tuple ts)), some (.d (.list ss)), some (.d (.tuple zs))] n6 = some (.d (.tuple zs), n6) := rfl
      have hadd : fOp2 addL (fVar 5) (fTup (faCons (fOp2 (seeB subD) (lenS (faCons (fVar 4) faNil)) (fC (.int 1))) faNil)) [some (.d (scriptD ns)), some .st, none, some (.d (.tuple ts)), some (.d (.list ss)), some (.d (.tuple zs))] n6 = some (.d (.tuple (zs ++ [.int ((ss.length : Int) - 1)])), n6) := by
        simp only [fOp2, h5, hT, addL, seeB, Sv.see, addD]
        rw [if_pos (by rw [List.length_singleton]; show _ ≤ 100000; omega)]
      simp only [fSortI, faCons, hadd, faNil, Sv.arg, hi1]
      rw [if_pos hi2, hi3]
    have a3 : fVar 3 [some (.d (scriptD ns)), some .st, none, some (.d (.tuple ts)), some (.d (.list ss)), some (.d (.tuple zs))] n6 = some (.d (.tuple ts), n6) := rfl
    have a4 : fBi (see1 tupG) (faCons (fVar 4) faNil) [some (.d (scriptD ns)), some .st, none, some (.d (.tuple ts)), some (.d (.list ss)), some (.d (.tuple zs))] n6 = some (.d (.tuple ss), n6) := rfl
    have a5 := tup_ev (.inl hs)
    show fTup _ [some (.d (scriptD ns)), some .st, none, some (.d (.tuple ts)), some (.d (.list ss)), some (.d (.tuple zs))] n6 = _
    simp only [fTup, faCons, a3, a4, a5, faNil, Sv.arg, keepAll]
    rfl
end Sb
namespace Sb
open PySem PySem.Spec PyProof.Rows L2
/-! ### a generated recipe is one -/
theorem num_in {i lo hi : Int} (h1 : lo ≤ i) (h2 : i ≤ hi) : numD (.int i) lo hi = true := by
  show (decide _ && decide _) = true
  rw [decide_eq_true h1, decide_eq_true h2]
  rfl
theorem goodR_ok {m s : Nat} {r : PyData} (h : goodR m s r) : readingD r m s = true := by
  obtain ⟨w, j, rfl, h⟩ := h
  rcases h with ⟨hw, h⟩ | ⟨hw, h⟩
  · have e : readingD (.tuple [.str w, .int (j : Int)]) m s = numD (.int j) 0 ((m : Int) - 1) := if_pos hw
    rw [e]
    exact num_in (by omega) (by omega)
  · have e : readingD (.tuple [.str w, .int (j : Int)]) m s = (decide (w = ("step" : Str)) && numD (.int j) 0 ((s : Int) - 1)) := if_neg (by rw [hw]; decide)
    rw [e, decide_eq_true hw, Bool.true_and]
    exact num_in (by omega) (by omega)
theorem goodS_ok {m s : Nat} {d : PyData} (h : goodS m s d) : stepD d m s = true := by
  obtain ⟨o, rs, rfl, h1, h2, h3, h4⟩ := h
  show (match lookM mREADINGS' o with
    | some k => tupD (.tuple rs) k k && (seqD (.tuple rs)).all (fun x => readingD x m s)
    | none => false) = true
  rw [h1]
  show (tupD (.tuple rs) (rs.length : Int) (rs.length : Int) && rs.all (fun x => readingD x m s)) = true
  rw [tup_yes (by omega) (by omega), Bool.true_and, List.all_eq_true]
  exact fun x hx => goodR_ok (h4 x hx)
theorem smDs_of : ∀ {ds : List PyData}, (∀ d ∈ ds, smD d = true) → smDs ds = true
  | [], _ => rfl
  | d :: r, h => by
    show (smD d && smDs r) = true
    rw [h d List.mem_cons_self, smDs_of fun x hx => h x (List.mem_cons_of_mem _ hx)]
    rfl
theorem goodS_sm {m s : Nat} {d : PyData} (h : goodS m s d) : smD d = true := by
  obtain ⟨o, rs, rfl, h1, h2, h3, h4⟩ := h
  refine smDs_of fun x hx => ?_
  simp only [List.mem_cons, List.not_mem_nil, or_false] at hx
  rcases hx with rfl | rfl
  · exact decide_eq_true (by omega)
  · refine smDs_of fun x hx => ?_
    obtain ⟨w, j, rfl, h⟩ := h4 x hx
    refine smDs_of fun x hx => ?_
    simp only [List.mem_cons, List.not_mem_nil, or_false] at hx
    rcases hx with rfl | rfl
    · rcases h with ⟨rfl, _⟩ | ⟨rfl, _⟩ <;> decide +kernel
    · rfl
theorem prod_le : ∀ {ts : List PyData}, (∀ t ∈ ts, okT t) → prodD ts ≤ 3 ^ ts.length
  | [], _ => Nat.le_refl _
  | t :: r, h => by
    obtain ⟨es, rfl, _, h3, _⟩ := h t List.mem_cons_self
    have ih := prod_le fun x hx => h x (List.mem_cons_of_mem _ hx)
    rw [prodD, List.length_cons, Nat.pow_succ, Nat.mul_comm]
    exact Nat.mul_le_mul ih h3
variable {r : PyData} {ts ss ms : List PyData}
theorem RecOk.ok (h : RecOk r ts ss ms) : recipeD r = true ∧ smD r = true := by
  obtain ⟨rfl, t1, t3, th, s1, s5, st, md⟩ := h
  constructor
  · show (thingsD (.tuple ts) && (stepsD (.tuple ss) (ts.length : Int) && madeD (.tuple ms) (ss.length : Int))) = true
    have e1 : thingsD (.tuple ts) = true := by
      show (tupD (.tuple ts) 1 5 && ts.all thingD && decide (prodD ts ≤ 256)) = true
      have : prodD ts ≤ 27 := Nat.le_trans (prod_le th) (Nat.le_trans (Nat.pow_le_pow_right (by omega) t3) (by decide))
      rw [tup_yes (by omega) (by omega), decide_eq_true (by omega), List.all_eq_true.mpr fun t ht => by obtain ⟨_, _, _, _, g, _⟩ := th t ht; exact g]
      rfl
    have e2 : stepsD (.tuple ss) (ts.length : Int) = true := by
      show (tupD (.tuple ss) 1 8 && stepsAllD ss (ts.length : Int) 0) = true
      rw [tup_yes (by omega) (by omega), Bool.true_and, stepsAll_iff, List.all_eq_true]
      intro j hj
      have hj := List.mem_range.mp hj
      rw [show 0 + j = j by omega, List.getD_eq_getElem?_getD, List.getElem?_eq_getElem hj]
      exact goodS_ok (st j _ (List.getElem?_eq_getElem hj))
    have e3 : madeD (.tuple ms) (ss.length : Int) = true := by
      rcases md with rfl | ⟨j, hj, rfl⟩
      · show (true && (numD (.int ((ss.length - 1 : Nat) : Int)) 0 ((ss.length : Int) - 1) && true) && true) = true
        rw [num_in (by omega) (by omega)]
        rfl
      · show (true && (numD (.int (j : Int)) 0 ((ss.length : Int) - 1) && (numD (.int ((ss.length - 1 : Nat) : Int)) 0 ((ss.length : Int) - 1) && true)) && (decide ((j : Int) < ((ss.length - 1 : Nat) : Int)) && true)) = true
        rw [num_in (by omega) (by omega), num_in (by omega) (by omega), decide_eq_true (by omega)]
        rfl
    rw [e1, e2, e3]
    rfl
  · refine smDs_of fun x hx => ?_
    simp only [List.mem_cons, List.not_mem_nil, or_false] at hx
    rcases hx with rfl | rfl | rfl
    · exact smDs_of fun t ht => by obtain ⟨_, _, _, _, _, g, _⟩ := th t ht; exact g
    · refine smDs_of fun d hd => ?_
      obtain ⟨j, hj⟩ := List.getElem?_of_mem hd
      exact goodS_sm (st j d hj)
    · rcases md with rfl | ⟨j, hj, rfl⟩ <;> rfl
theorem m_check_recipe (h : recipeD r = true) (hs : smD r = true) (n : Nat) : F_check_recipe [.d r] n = some (.d .none, n) := by
  have hc := notb (call_ev (fa := faCons (fVar 0) faNil) (e := argsE 1 1 [.d r]) (np := 1) (as := [.d r]) rfl rfl (m_is_recipe r n hs))
  rw [h] at hc
  refine run_nx rfl (e' := argsE 1 1 [.d r]) ?_
  show sIf _ _ _ (argsE 1 1 [.d r]) n = _
  rw [if_st hc]
  rfl
/-! ### acts -/
end Sb
namespace Sb
open PySem PySem.Spec PyProof.Rows L2
/-! ### worlds -/
def wD (w : List Nat) : PyData := .tuple (w.map fun (i : Nat) => PyData.int (i : Int))
def grow (k : Nat) (ws : List (List Nat)) : List (List Nat) := ws.flatMap fun w => (List.range k).map fun i => w ++ [i]
theorem ups_eq (k : Nat) : intsUp 0 k = (List.range k).map fun (i : Nat) => PyData.int (i : Int) := by
  unfold intsUp
  refine congrArg (fun f => List.map f (List.range k)) (funext fun i => ?_)
  rw [show (0 : Int) + (i : Int) = (i : Int) by omega]
theorem grow_mem {k : Nat} {ws : List (List Nat)} {v : List Nat} : v ∈ grow k ws ↔ ∃ w ∈ ws, ∃ i, i < k ∧ v = w ++ [i] := by
  unfold grow
  rw [List.mem_flatMap]
  constructor
  · rintro ⟨w, hw, hv⟩
    obtain ⟨i, hi, rfl⟩ := List.mem_map.mp hv
    exact ⟨w, hw, i, List.mem_range.mp hi, rfl⟩
  · rintro ⟨w, hw, i, hi, rfl⟩
    exact ⟨w, hw, List.mem_map.mpr ⟨i, List.mem_range.mpr hi, rfl⟩⟩
/-! the program's -/
theorem rng_ev' {f : FE} {e n n1} {j : Nat} (h : f e n = some (.d (.int (j : Int)), n1)) (hj : j ≤ 1000) : itRng1 (faCons f faNil) e n = some ((List.range j).map (fun (i : Nat) => PyData.int (i : Int)), n1) := by
  have hs : smallI (j : Int) = true := by
    unfold smallI
    rw [decide_eq_true (by omega), decide_eq_true (by omega)]
    rfl
  simp only [itRng1, faCons, h, faNil, Sv.arg]
  rw [if_pos hs, Int.toNat_natCast, ups_eq]
theorem forL_c {tg : FG} {wp : List Nat} {body : FS} {x : PyData} {xs : List PyData} {e e1 e2 e3 : Ev} {n n2 : Nat} {z : Option (Fl × Ev × Nat)} (ht : tg x e = some e1) (hb : body e1 n = some (.nx, e2, n2)) (hw : wipeE e2 wp = e3) (q : forL tg wp body xs e3 n2 = z) : forL tg wp body (x :: xs) e n = z := by
  simp only [forL, ht, hb, hw, q]
end Sb
namespace Sb
open PySem PySem.Spec PyProof.Rows L2
/-! ### texts of small letters -/
def lowZ (z : Str) (k : Nat) : Prop := z.length ≤ k ∧ ∀ c ∈ z.cps.toList, 97 ≤ c ∧ c ≤ 122
theorem read_cases {o : Str} {k : Int} (h : lookM mREADINGS' o = some k) : (o = "join" ∧ k = 2) ∨ (o = "sort" ∧ k = 1) ∨ (o = "turn" ∧ k = 1) ∨ (o = "first" ∧ k = 1) ∨ (o = "rest" ∧ k = 1) ∨ (o = "less" ∧ k = 2) ∨ (o = "same" ∧ k = 2) ∨ (o = "pick" ∧ k = 3) := by
  unfold mREADINGS' at h
  simp only [lookM] at h
  repeat' (split at h)
  all_goals (first | (injection h with h; subst h; simp_all) | cases h)
end Sb
namespace Sb
open PySem PySem.Spec PyProof.Rows L2
/-! ### made_by and the law's make -/
theorem g_no {t : FT} {a rest : FS} {e n n1 v n'} (h : t e n = some (false, n1)) (k : Gives rest e n1 v n') : Gives (sSeq (sIf t a sNx) rest) e n v n' := g_seq_if h (fun z => nomatch z) fun _ => g_nx k
theorem bi_evQ {g : List Sv → Option Sv} {fa : FA} {e n n1 as r} (h : fa e n = some (as, n1)) (hg : g as = some r) : fBi g fa e n = some (r, n1) := by
  simp only [fBi, h, hg]
theorem lc_ev' {it : FI} {tg : FG} {own : List Nat} {t : FT} {f : FE} {e n n1 xs ys n2} (h : it e n = some (xs, n1)) (hl : xs.length ≤ big) (q : lcL tg own t f xs e n1 = some (ys, n2)) : fLc it tg own t f e n = some (.cell ys, n2) := by
  simp only [fLc, h, if_pos hl, q]
end Sb
namespace Sb
open PySem PySem.Spec PyProof.Rows L2
/-! ### recipes as plain data -/
abbrev Rd := Str × Nat
abbrev Stp := Str × List Rd
def natD (i : Nat) : PyData := .int (i : Int)
def encR (r : Rd) : PyData := .tuple [.str r.1, natD r.2]
def encS (s : Stp) : PyData := .tuple [.str s.1, .tuple (s.2.map encR)]
def encT (t : List Str) : PyData := .tuple (t.map PyData.str)
structure Rc where
  ts : List (List Str)
  ss : List Stp
  ms : List Nat
def Rc.enc (R : Rc) : PyData := .tuple [.tuple (R.ts.map encT), .tuple (R.ss.map encS), .tuple (R.ms.map natD)]
def okRd (m j : Nat) (r : Rd) : Prop := (r.1 = "thing" ∧ r.2 < m) ∨ (r.1 = "step" ∧ r.2 < j)
def okSt (m j : Nat) (s : Stp) : Prop := lookM mREADINGS' s.1 = some (s.2.length : Int) ∧ ∀ r ∈ s.2, okRd m j r
def okTh (t : List Str) : Prop := 1 ≤ t.length ∧ t.length ≤ 4 ∧ ∀ z ∈ t, lowZ z 4
structure Rc.Ok (R : Rc) : Prop where
  t1 : 1 ≤ R.ts.length
  t5 : R.ts.length ≤ 5
  th : ∀ t ∈ R.ts, okTh t
  s1 : 1 ≤ R.ss.length
  s8 : R.ss.length ≤ 8
  st : ∀ (j : Nat) (s : Stp), R.ss[j]? = some s → okSt R.ts.length j s
  m1 : 1 ≤ R.ms.length
  m3 : R.ms.length ≤ 3
  md : ∀ m ∈ R.ms, m < R.ss.length
  rd : recipeD R.enc = true
  sm : smD R.enc = true
theorem list_enc {A : Type} {f : A → PyData} {P : A → Prop} : ∀ ds : List PyData, (∀ d ∈ ds, ∃ x, d = f x ∧ P x) → ∃ xs : List A, ds = xs.map f ∧ ∀ x ∈ xs, P x
  | [], _ => ⟨[], rfl, fun _ h => nomatch h⟩
  | d :: ds, h => by
    obtain ⟨x, rfl, hx⟩ := h d List.mem_cons_self
    obtain ⟨xs, rfl, hxs⟩ := list_enc ds fun e he => h e (List.mem_cons_of_mem _ he)
    exact ⟨x :: xs, rfl, fun y hy => by
      rcases List.mem_cons.mp hy with rfl | hy
      · exact hx
      · exact hxs y hy⟩
theorem list_encI {A : Type} {f : A → PyData} {P : Nat → A → Prop} : ∀ (ds : List PyData) (k : Nat), (∀ (j : Nat) (d : PyData), ds[j]? = some d → ∃ x, d = f x ∧ P (k + j) x) → ∃ xs : List A, ds = xs.map f ∧ ∀ (j : Nat) (x : A), xs[j]? = some x → P (k + j) x
  | [], k, _ => ⟨[], rfl, fun _ _ h => by simp at h⟩
  | d :: ds, k, h => by
    obtain ⟨x, rfl, hx⟩ := h 0 d rfl
    obtain ⟨xs, rfl, hxs⟩ := list_encI (P := P) ds (k + 1) fun j e he => by
      have := h (j + 1) e (by simpa using he)
      rw [show k + (j + 1) = k + 1 + j by omega] at this
      exact this
    refine ⟨x :: xs, rfl, fun j y hy => ?_⟩
    cases j with
    | zero =>
      cases hy
      exact hx
    | succ j =>
      have := hxs j y (by simpa using hy)
      rw [show k + 1 + j = k + (j + 1) by omega] at this
      exact this
theorem text_low {d : PyData} (h : textD d 4 = true) : ∃ z, d = .str z ∧ lowZ z 4 := by
  cases d with
  | str z =>
    have h' : (decide ((z.length : Int) ≤ 4) && z.cps.toList.all letterOk) = true := h
    rw [Bool.and_eq_true, decide_eq_true_eq, List.all_eq_true] at h'
    refine ⟨z, rfl, by omega, fun c hc => ?_⟩
    have := h'.2 c hc
    unfold letterOk at this
    rw [Bool.and_eq_true, decide_eq_true_eq, decide_eq_true_eq] at this
    exact this
  | _ => cases h
theorem RecOk.plain {r : PyData} {ts ss ms : List PyData} (h : RecOk r ts ss ms) : ∃ R : Rc, r = R.enc ∧ R.Ok ∧ ts = R.ts.map encT ∧ ss = R.ss.map encS ∧ ms = R.ms.map natD := by
  obtain ⟨g1, g2⟩ := h.ok
  obtain ⟨rfl, t1, t3, th, s1, s5, st, md⟩ := h
  obtain ⟨xs, ex, hx⟩ := list_enc (f := encT) (P := okTh) ts fun t ht => by
    obtain ⟨es, rfl, a, b, c, _⟩ := th t ht
    have c' : (tupD (.tuple es) 1 4 && es.all (fun x => textD x 4) && ascD es) = true := c
    rw [Bool.and_eq_true, Bool.and_eq_true, List.all_eq_true] at c'
    obtain ⟨zs, rfl, hz⟩ := list_enc (f := PyData.str) (P := fun z => lowZ z 4) es fun d hd => text_low (c'.1.2 d hd)
    rw [List.length_map] at a b
    exact ⟨zs, rfl, a, by omega, hz⟩
  obtain ⟨ys, ey, hy⟩ := list_encI (f := encS) (P := okSt ts.length) ss 0 fun j d hj => by
    rw [Nat.zero_add]
    obtain ⟨o, rs, rfl, a, _, _, b⟩ := st j d hj
    obtain ⟨qs, rfl, hq⟩ := list_enc (f := encR) (P := okRd ts.length j) rs fun x hx => by
      obtain ⟨w, i, rfl, q⟩ := b x hx
      exact ⟨(w, i), rfl, q⟩
    exact ⟨(o, qs), rfl, by rw [List.length_map] at a; exact a, hq⟩
  obtain ⟨zs, ez, hz, hl⟩ : ∃ zs : List Nat, ms = zs.map natD ∧ (∀ m ∈ zs, m < ss.length) ∧ 1 ≤ zs.length ∧ zs.length ≤ 3 := by
    rcases md with rfl | ⟨j, hj, rfl⟩
    · exact ⟨[ss.length - 1], rfl, fun m hm => by rw [List.mem_singleton.mp hm]; omega, by simp, by simp⟩
    · exact ⟨[j, ss.length - 1], rfl, fun m hm => by
        simp only [List.mem_cons, List.not_mem_nil, or_false] at hm
        rcases hm with rfl | rfl <;> omega, by simp, by simp⟩
  subst ex ey ez
  refine ⟨⟨xs, ys, zs⟩, rfl, ⟨?_, ?_, hx, ?_, ?_, fun j s hj => ?_, hl.1, hl.2, ?_, g1, g2⟩, rfl, rfl, rfl⟩
  · rw [List.length_map] at t1; exact t1
  · rw [List.length_map] at t3; exact Nat.le_trans t3 (by decide)
  · rw [List.length_map] at s1; exact s1
  · rw [List.length_map] at s5; exact Nat.le_trans s5 (by decide)
  · have := hy j s hj
    rw [List.length_map, Nat.zero_add] at this
    exact this
  · rw [List.length_map] at hz; exact hz
/-! ### what is read and made -/
end Sb
namespace Sb
open PySem PySem.Spec PyProof.Rows L2
/-! ### text_read -/
theorem ix_nat {f g : FE} {e : Ev} {n : Nat} {s : Sv} {d x : PyData} {ds : List PyData} {i : Nat} (h1 : f e n = some (s, n)) (hs : s.see = some d) (hd : d = .tuple ds ∨ d = .list ds) (h2 : g e n = some (.d (natD i), n)) (hx : ds[i]? = some x) : fOp2 (seeB ixD) f g e n = some (.d x, n) :=
  cmp_see (sa := s) (sb := .d (natD i)) (a := d) (b := natD i) h1 hs h2 rfl (int_ix hd hx)
theorem getD_get {A : Type} {xs : List A} {i : Nat} {d : A} (h : i < xs.length) : xs[i]? = some (xs.getD i d) := by
  rw [List.getD_eq_getElem?_getD, List.getElem?_eq_getElem h]
  rfl
end Sb
namespace Sb
open PySem PySem.Spec PyProof.Rows L2
/-! ### all_texts, outcome_left -/
section
variable {R : Rc} {al : List PyData} {w : List Nat}
theorem len_big {A : Type} {xs : List A} (h : xs.length ≤ 1000) : xs.length ≤ big := by
  show _ ≤ 100000
  omega
theorem len_bigL {A : Type} {xs : List A} (h : xs.length ≤ 1000) : xs.length < big := by
  show _ < 100000
  omega
theorem read_le {o : Str} {k : Int} (h : lookM mREADINGS' o = some k) : k ≤ 3 := by
  rcases read_cases h with ⟨_, h⟩ | ⟨_, h⟩ | ⟨_, h⟩ | ⟨_, h⟩ | ⟨_, h⟩ | ⟨_, h⟩ | ⟨_, h⟩ | ⟨_, h⟩ <;> omega
theorem g_runS {it : FI} {tg : FG} {wp : List Nat} {body rest : FS} {e e1 : Ev} {n n1 n2 : Nat} {xs : List PyData} {v n'} (hit : it e n = some (xs, n1)) (hl : xs.length ≤ big) (h : forL tg wp body xs e n1 = some (.nx, e1, n2)) (k : Gives rest e1 n2 v n') : Gives (sSeq (sFor it tg wp body) rest) e n v n' := g_run hit hl h k
end
end Sb
namespace Sb
open PySem PySem.Spec PyProof.Rows L2
/-! ### the law's reads -/
section
variable {R : Rc} {al : List PyData} {w : List Nat}
theorem seq_q {s rest : FS} {e e1 : Ev} {n n1 : Nat} {z : Option (Fl × Ev × Nat)} (h : s e n = some (.nx, e1, n1)) (k : rest e1 n1 = z) : sSeq s rest e n = z := by
  simp only [sSeq, h, k]
theorem for_q {it : FI} {tg : FG} {wp : List Nat} {body : FS} {e : Ev} {n n1 : Nat} {xs : List PyData} {z : Option (Fl × Ev × Nat)} (h : it e n = some (xs, n1)) (hl : xs.length ≤ big) (q : forL tg wp body xs e n1 = z) : sFor it tg wp body e n = z := by
  simp only [sFor, h, if_pos hl, q]
end
end Sb
namespace Sb
open PySem PySem.Spec PyProof.Rows L2
/-! ### acts as plain data; worlds left; texts_in, outcome -/
abbrev Ac := Str × Nat × Nat
def okA (m : Nat) (a : Ac) : Prop := (a.1 = "pin" ∧ a.2.1 < m) ∨ a.1 = "hide"
section
variable {R : Rc} {A : List Ac} {w : List Nat}
theorem forL_rt {tg : FG} {wp : List Nat} {body : FS} {x : PyData} {xs : List PyData} {e e1 e2 : Ev} {n n2 : Nat} {v : Sv} (ht : tg x e = some e1) (hb : body e1 n = some (.rt v, e2, n2)) : forL tg wp body (x :: xs) e n = some (.rt v, e2, n2) := by
  simp only [forL, ht, hb]
theorem seq_rtQ {s rest : FS} {e e1 : Ev} {n n1 : Nat} {v : Sv} (h : s e n = some (.rt v, e1, n1)) : sSeq s rest e n = some (.rt v, e1, n1) := by
  simp only [sSeq, h]
/-! is_world -/
end
end Sb
namespace Sb
open PySem PySem.Spec PyProof.Rows L2
/-! ### acts and worlds told apart; worlds_left, touches -/
/-! worlds_left -/
section
variable {R : Rc} {A : List Ac} {w : List Nat}
/-! touches -/
def okB (m : Nat) (a : Ac) : Prop := (a.1 = "pin" ∧ a.2.1 < m) ∨ (a.1 = "hide" ∧ a.2.2 < m)
theorem okB.ok {m : Nat} {a : Ac} (h : okB m a) : okA m a := by
  rcases h with h | h
  · exact .inl h
  · exact .inr h.1
/-! acts that do not touch a world change no text there -/
end
end Sb
namespace Sb
open PySem PySem.Spec PyProof.Rows L2
/-! ### words for walks -/
theorem fa_c {f : FE} {g : FA} {e : Ev} {n n1 n2 : Nat} {a : Sv} {as : List Sv} (h1 : f e n = some (a, n1)) (h2 : g e n1 = some (as, n2)) : faCons f g e n = some (a.arg :: as, n2) := by
  simp only [faCons, h1, h2]
theorem fa_n {e : Ev} {n : Nat} : faNil e n = some ([], n) := rfl
theorem catT_ev {f g : FE} {e : Ev} {n n1 n2 : Nat} {xs ys : List PyData} (h1 : f e n = some (.d (.tuple xs), n1)) (h2 : g e n1 = some (.d (.tuple ys), n2)) (hl : xs.length + ys.length ≤ 1000) : fOp2 addL f g e n = some (.d (.tuple (xs ++ ys)), n2) := by
  have hb : xs.length + ys.length ≤ big := Nat.le_trans hl (by decide)
  have e1 : seeB addD (.d (.tuple xs)) (.d (.tuple ys)) = some (.d (.tuple (xs ++ ys))) := by
    unfold seeB
    show (match (if xs.length + ys.length ≤ big then some (PyData.tuple (xs ++ ys)) else none) with
      | some z => some (Sv.d z)
      | none => none) = _
    rw [if_pos hb]
  have e2 : addL (.d (.tuple xs)) (.d (.tuple ys)) = some (.d (.tuple (xs ++ ys))) := e1
  simp only [fOp2, h1, h2, e2]
theorem lst_evR {fa : FA} {e : Ev} {n n1 : Nat} {as : List Sv} {xs : List PyData} (h : fa e n = some (as, n1)) (hk : keepAll as = some xs) (hl : xs.length ≤ 1000) : fLst fa e n = some (.cell xs, n1) := by
  have hb : xs.length ≤ big := Nat.le_trans hl (by decide)
  unfold fLst
  rw [h]
  dsimp only
  rw [hk]
  dsimp only
  rw [if_pos hb]
theorem tupN_ev {fa : FA} {e : Ev} {n n1 : Nat} {as : List Sv} {xs : List PyData} (h : fa e n = some (as, n1)) (hk : keepAll as = some xs) (hl : xs.length ≤ 1000) : fTup fa e n = some (.d (.tuple xs), n1) := by
  have hb : xs.length ≤ big := Nat.le_trans hl (by decide)
  unfold fTup
  rw [h]
  dsimp only
  rw [hk]
  dsimp only
  rw [if_pos hb]
theorem itTake_c {f : FE} {e : Ev} {n n1 : Nat} {xs : List PyData} (h : f e n = some (.cell xs, n1)) : itTake f e n = some (xs, n1) := by simp only [itTake, h]
theorem setV {i : Nat} {f : FE} {e n n1} {sv : Sv} (h : f e n = some (sv, n1)) (ho : sv.own = true) : sAsg i f e n = some (.nx, e.set i (some sv), n1) := by
  simp only [sAsg, h, ho, if_true]
/-- all of a list that is just made, all true -/
theorem all_map {f : FE} {e : Ev} {n n1 : Nat} {bs : List Bool} (h : f e n = some (.cell (bs.map PyData.bool), n1)) : fBi (see1 allG) (faCons f faNil) e n = some (.d (.bool (bs.all id)), n1) := by
  have hb : ∀ bs : List Bool, bools (bs.map PyData.bool) = some bs := fun bs => by
    induction bs with
    | nil => rfl
    | cons b bs ih =>
      show (match bools (bs.map PyData.bool) with
        | some cs => some (b :: cs)
        | none => none) = _
      rw [ih]
  have e1 : see1 allG [.d (.list (bs.map PyData.bool))] = some (.d (.bool (bs.all id))) := by
    show (match bools (bs.map PyData.bool) with
      | some bs => some (Sv.d (.bool (bs.all id)))
      | none => none) = _
    rw [hb]
  simp only [fBi, faCons, h, faNil, Sv.arg, e1]
theorem any_map {f : FE} {e : Ev} {n n1 : Nat} {bs : List Bool} (h : f e n = some (.cell (bs.map PyData.bool), n1)) : fBi (see1 anyG) (faCons f faNil) e n = some (.d (.bool (bs.any id)), n1) := by
  have hb : ∀ bs : List Bool, bools (bs.map PyData.bool) = some bs := fun bs => by
    induction bs with
    | nil => rfl
    | cons b bs ih =>
      show (match bools (bs.map PyData.bool) with
        | some cs => some (b :: cs)
        | none => none) = _
      rw [ih]
  have e1 : see1 anyG [.d (.list (bs.map PyData.bool))] = some (.d (.bool (bs.any id))) := by
    show (match bools (bs.map PyData.bool) with
      | some bs => some (Sv.d (.bool (bs.any id)))
      | none => none) = _
    rw [hb]
  simp only [fBi, faCons, h, faNil, Sv.arg, e1]
/-- a comprehension over data, each item by itself -/
theorem lc_map {i : Nat} {f : FE} {e : Ev} {n : Nat} {g : PyData → PyData} (hi : e[i]? = some none) : ∀ {xs : List PyData}, (∀ x ∈ xs, f (e.set i (some (.d x))) n = some (.d (g x), n)) → lcL (tgN i) [i] tT f xs e n = some (xs.map g, n)
  | [], _ => rfl
  | x :: xs, h => by
    have ih := lc_map (g := g) hi fun y hy => h y (List.mem_cons_of_mem _ hy)
    have e1 : wipeE e [i] = e := by
      show e.set i none = e
      apply List.ext_getElem?
      intro j
      by_cases q : i = j
      · subst q
        have hl := (List.getElem?_eq_some_iff.mp hi).1
        rw [List.getElem?_set_self hl, hi]
      · rw [List.getElem?_set_ne q]
    have e2 : tgN i x (wipeE e [i]) = some (e.set i (some (.d x))) := by
      rw [e1]
      rfl
    simp only [lcL, e2, tT, h x List.mem_cons_self, Sv.take, ih, List.map_cons]
theorem nx_back {i : Nat} {e : Ev} {o : Option Sv} (h : e[i]? = some none) : wipeE (e.set i o) [i] = e := set_back h
/-- a loop whose body finds nothing wrong -/
theorem for_none {t : FT} {i : Nat} {r : PyData} {e : Ev} {n : Nat} (hi : e[i]? = some none) : ∀ {xs : List PyData}, (∀ x ∈ xs, t (e.set i (some (.d x))) n = some (false, n)) → forL (tgN i) [i] (sIf t (sRet (fC r)) sNx) xs e n = some (.nx, e, n)
  | [], _ => rfl
  | x :: xs, h => by
    have ih := for_none (r := r) hi fun y hy => h y (List.mem_cons_of_mem _ hy)
    have hb : sIf t (sRet (fC r)) sNx (e.set i (some (.d x))) n = some (.nx, e.set i (some (.d x)), n) := by
      unfold sIf
      rw [h x List.mem_cons_self]
      rfl
    exact forL_c (e1 := e.set i (some (.d x))) rfl hb (nx_back hi) ih
end Sb
namespace Sb
open PySem PySem.Spec PyProof.Rows L2
/-! ### worlds as keys of a dict -/
theorem nks_nat : ∀ w : List Nat, nks (w.map fun (i : Nat) => PyData.int (i : Int)) = some (w.map fun (i : Nat) => NestedKey.num (i : Int))
  | [] => rfl
  | z :: t => by
    have e : nk (.int (z : Int)) = some (.num (z : Int)) := rfl
    rw [List.map_cons, nks, e, nks_nat t]
    rfl
theorem dep_nat : ∀ w : List Nat, NestedKey.depthAll (w.map fun (i : Nat) => NestedKey.num (i : Int)) = 0
  | [] => rfl
  | z :: t => by
    rw [List.map_cons, NestedKey.depthAll, dep_nat t]
    rfl
theorem nkT_W (w : List Nat) : nkT (wD w) = some (.tup (w.map fun (i : Nat) => NestedKey.num (i : Int))) := by
  have e : nk (.tuple (w.map fun (i : Nat) => PyData.int (i : Int))) = some (.tup (w.map fun (i : Nat) => NestedKey.num (i : Int))) := by
    rw [nk, nks_nat]
  unfold nkT wD
  dsimp only
  rw [e]
  dsimp only
  rw [if_pos]
  simp [NestedKey.depth, dep_nat]
theorem wD_injT {v w : List Nat} (h : wD v = wD w) : v = w := by
  unfold wD at h
  injection h with h
  exact (List.map_inj_right (fun x y e => by
    injection e with e
    omega)).mp h
theorem keyW_iff (v w : List Nat) : nkT (wD v) = nkT (wD w) ↔ v = w :=
  ⟨fun h => wD_injT (nkT_inj (nkT_W v) (by rw [← h]; exact nkT_W v)), fun h => by rw [h]⟩
def tabF (f : List Nat → PyData) (ws : List (List Nat)) : List (PyData × PyData) := ws.map fun w => (wD w, f w)
theorem getT_F (f : List Nat → PyData) (ws : List (List Nat)) (v : List Nat) : getT (tabF f ws) (wD v) = if v ∈ ws then some (f v) else none := by
  induction ws with
  | nil => rfl
  | cons a ws ih =>
    show getT ((wD a, f a) :: tabF f ws) (wD v) = _
    rw [getT_cons, ih]
    by_cases h : a = v
    · subst h
      rw [if_pos rfl, if_pos List.mem_cons_self]
    · rw [if_neg (fun z => h ((keyW_iff a v).mp z))]
      by_cases g : v ∈ ws
      · rw [if_pos g, if_pos (List.mem_cons_of_mem _ g)]
      · rw [if_neg g, if_neg (fun z => by
          rcases List.mem_cons.mp z with z | z
          · exact h z.symm
          · exact g z)]
/-! first_pair -/
section
variable {R : Rc} {α : Type} [DecidableEq α] {enc : α → PyData} {g : List Nat → α} {ws : List (List Nat)} {i : Nat}
theorem cut_tkF (xs : List PyData) (k : Nat) : cutD xs none (some (k : Int)) = xs.take k := by
  unfold cutD
  rw [HT.sIx_none, HT.sIx_nat, List.drop_zero, Nat.sub_zero]
  by_cases h : k ≤ xs.length
  · rw [Nat.min_eq_left h]
  · rw [Nat.min_eq_right (by omega), List.take_of_length_le (Nat.le_refl _), List.take_of_length_le (by omega)]
theorem cut_drF (xs : List PyData) (k : Nat) : cutD xs (some (k : Int)) none = xs.drop k := by
  unfold cutD
  rw [HT.sIx_none, HT.sIx_nat]
  by_cases h : k ≤ xs.length
  · rw [Nat.min_eq_left h, List.take_of_length_le (by rw [List.length_drop]; omega)]
  · rw [Nat.min_eq_right (by omega), List.drop_of_length_le (Nat.le_refl _), List.drop_of_length_le (by omega), List.take_nil]
end
end Sb
namespace Sb
open PySem PySem.Spec PyProof.Rows L2
/-! ### numbers as keys, each with True -/
def insN (ks : List Nat) (k : Nat) : List Nat := if k ∈ ks then ks else ks ++ [k]
def tabN (ks : List Nat) : List (PyData × PyData) := ks.map fun k => (natD k, PyData.bool true)
theorem key_N (a b : Nat) : ikT (natD a) = some (b : Int) ↔ a = b := by
  show some (a : Int) = some (b : Int) ↔ a = b
  exact ⟨fun h => by injection h with h; omega, fun h => by rw [h]⟩
theorem getI_N (ks : List Nat) (k : Nat) : getI (tabN ks) (k : Int) = if k ∈ ks then some (.bool true) else none := by
  induction ks with
  | nil => rfl
  | cons a ks ih =>
    show getI ((natD a, PyData.bool true) :: tabN ks) (k : Int) = _
    rw [getI_cons, ih]
    by_cases h : a = k
    · rw [if_pos ((key_N a k).mpr h), if_pos (by rw [h]; exact List.mem_cons_self)]
    · rw [if_neg (fun z => h ((key_N a k).mp z))]
      by_cases g : k ∈ ks
      · rw [if_pos g, if_pos (List.mem_cons_of_mem _ g)]
      · rw [if_neg g, if_neg (fun z => by
          rcases List.mem_cons.mp z with z | z
          · exact h z.symm
          · exact g z)]
theorem putI_N (ks : List Nat) (k : Nat) : putI (tabN ks) (k : Int) (.bool true) = tabN (insN ks k) := by
  unfold putI insN
  rw [getI_N]
  by_cases h : k ∈ ks
  · rw [if_pos h, if_pos (show (some (PyData.bool true)).isSome = true from rfl), if_pos h]
    unfold tabN
    rw [List.map_map]
    refine List.map_congr_left fun a _ => ?_
    show (if _ then (natD a, PyData.bool true) else (natD a, PyData.bool true)) = _
    rw [ite_self]
  · rw [if_neg h, if_neg (show ¬ (none : Option PyData).isSome = true by decide), if_neg h]
    unfold tabN
    rw [List.map_append]
    rfl
end Sb
namespace Sb
open PySem PySem.Spec PyProof.Rows L2
/-! ### lists of numbers: sorted, in, equal -/
theorem lay_N : ∀ s : List Nat, PyData.canLayAll0 (s.map natD) = true
  | [] => rfl
  | i :: s => by
    rw [List.map_cons, PyData.canLayAll0, lay_N s]
    rfl
theorem any_N (i : Nat) (s : List Nat) : ((s.map natD).any fun z => PyData.eqv z (natD i)) = decide (i ∈ s) := by
  rw [Bool.eq_iff_iff, List.any_eq_true, decide_eq_true_eq]
  constructor
  · rintro ⟨z, hz, he⟩
    obtain ⟨j, hj, rfl⟩ := List.mem_map.mp hz
    simp only [natD, PyData.eqv, beq_iff_eq] at he
    have : j = i := by omega
    exact this ▸ hj
  · intro h
    exact ⟨natD i, List.mem_map.mpr ⟨i, h, rfl⟩, PySem.W.eqv_refl_alike _ rfl⟩
theorem shaped_N (i : Nat) : SeqAt.shaped (natD i) = true := by
  unfold natD
  simp [SeqAt.shaped, PyData.canLay0, PyData.depth]
theorem sortOk_N {K : List Nat} (h : K.length ≤ 1000) : sortOk (K.map natD) = true := by
  unfold sortOk
  simp only [Bool.and_eq_true, List.all_eq_true, Bool.or_eq_true, decide_eq_true_eq]
  refine ⟨⟨⟨fun d hd e he => ?_, .inr fun d hd => ?_⟩, fun d hd => ?_⟩, by rw [List.length_map]; exact len_big h⟩
  · obtain ⟨i, _, rfl⟩ := List.mem_map.mp hd
    obtain ⟨j, _, rfl⟩ := List.mem_map.mp he
    rfl
  · obtain ⟨i, _, rfl⟩ := List.mem_map.mp hd
    rfl
  · obtain ⟨i, _, rfl⟩ := List.mem_map.mp hd
    unfold natD
    rw [PyData.depth]
    exact Nat.zero_le _
def ascN (K : List Nat) (n : Nat) : List Nat := (List.range n).filter fun i => decide (i ∈ K)
theorem mem_asc {K : List Nat} {n i : Nat} : i ∈ ascN K n ↔ i < n ∧ i ∈ K := by
  unfold ascN
  rw [List.mem_filter, List.mem_range, decide_eq_true_eq]
theorem sort_N {K : List Nat} {n : Nat} (hn : K.Nodup) (hb : ∀ k ∈ K, k < n) : sortD (K.map natD) = (ascN K n).map natD := by
  have e : sortD (K.map natD) = (K.mergeSort fun a b => decide (a ≤ b)).map natD := by
    refine (List.map_mergeSort (r := fun a b => decide (a ≤ b)) (s := PySem.W.dataLe false id) (f := natD) fun a _ b _ => ?_).symm
    show _ = !PySem.W.dataLt (natD b) (natD a)
    unfold natD
    rw [PySem.W.dataLt_int, PySem.W.not_lt_int]
    exact decide_eq_decide.mpr ⟨fun h => by omega, fun h => by omega⟩
  rw [e]
  congr 1
  have s1 := List.pairwise_mergeSort (le := fun a b : Nat => decide (a ≤ b)) (fun a b c x y => by simp only [decide_eq_true_eq] at *; omega) (fun a b => by simp only [Bool.or_eq_true, decide_eq_true_eq]; omega) K
  have s2 : (ascN K n).Pairwise (· < ·) := List.Pairwise.filter _ List.pairwise_lt_range
  have p : (K.mergeSort fun a b => decide (a ≤ b)).Perm (ascN K n) := (List.mergeSort_perm _ _).trans ((List.perm_ext_iff_of_nodup hn (s2.imp fun h => Nat.ne_of_lt h)).mpr fun a => by
    rw [mem_asc]
    exact ⟨fun h => ⟨hb a h, h⟩, fun h => h.2⟩)
  refine List.Perm.eq_of_pairwise (le := fun a b => a ≤ b) (fun a b _ _ x y => by omega) (s1.imp fun h => of_decide_eq_true h) (s2.imp fun h => Nat.le_of_lt h) p
/-- those of some numbers that a test takes -/
theorem lc_filt {i : Nat} {t : FT} {e : Ev} {n : Nat} {p : Nat → Bool} (hi : e[i]? = some none) : ∀ {js : List Nat}, (∀ j ∈ js, t (e.set i (some (.d (natD j)))) n = some (p j, n)) → lcL (tgN i) [i] t (fVar i) (js.map natD) e n = some ((js.filter p).map natD, n)
  | [], _ => rfl
  | j :: js, h => by
    have ih := lc_filt (p := p) hi fun y hy => h y (List.mem_cons_of_mem _ hy)
    have e1 : wipeE e [i] = e := by
      have := set_back (o := none) hi
      have e0 : e.set i none = e := by
        apply List.ext_getElem?
        intro k
        by_cases q : i = k
        · subst q
          rw [List.getElem?_set_self ((List.getElem?_eq_some_iff.mp hi).1), hi]
        · rw [List.getElem?_set_ne q]
      rw [e0] at this
      exact this
    have e2 : tgN i (natD j) (wipeE e [i]) = some (e.set i (some (.d (natD j)))) := by rw [e1]; rfl
    have v : fVar i (e.set i (some (.d (natD j)))) n = some (.d (natD j), n) := by
      unfold fVar
      rw [List.getElem?_set_self ((List.getElem?_eq_some_iff.mp hi).1)]
    have t1 := h j List.mem_cons_self
    rw [List.map_cons, List.filter_cons]
    cases q : p j with
    | true =>
      rw [q] at t1
      simp only [lcL, e2, t1, v, Sv.take, ih, if_true, List.map_cons]
    | false =>
      rw [q] at t1
      simp only [lcL, e2, t1, ih, Bool.false_eq_true, if_false]
/-! ### used_steps -/
def rdS (rs : List Rd) : List Nat := (rs.filter fun r => decide (r.1 = ("step" : Str))).map (·.2)
end Sb
namespace Sb
open PySem PySem.Spec PyProof.Rows L2
/-! ### orders of steps, counted -/
section
variable (n : Nat) (rd : Nat → List Nat)
def frB (S : List Nat) (x : Nat) : Bool := !decide (x ∈ S) && (rd x).all fun k => decide (k ∈ S)
def freeV (S : List Nat) : List Nat := (List.range n).filter (frB rd S)
def nxtV (S : List Nat) (x : Nat) : List Nat := ascN (S ++ [x]) n
def Wv : Nat → List Nat → Nat
  | 0, _ => 1
  | j + 1, S => ((freeV n rd S).map fun x => Wv j (nxtV n S x)).sum
def ordL : List Nat → List Nat → Bool
  | _, [] => true
  | S, x :: s => frB rd S x && ordL (S ++ [x]) s
def growN : Nat → List (List Nat)
  | 0 => [[]]
  | i + 1 => grow n (growN i)
def Vv (i : Nat) : List (List Nat) := (growN n i).filter (ordL rd [])
theorem ord_snoc : ∀ (s S : List Nat) (x : Nat), ordL rd S (s ++ [x]) = (ordL rd S s && frB rd (S ++ s) x)
  | [], S, x => by
    show (frB rd S x && true) = (true && frB rd (S ++ []) x)
    rw [List.append_nil, Bool.and_true, Bool.true_and]
  | y :: s, S, x => by
    show (frB rd S y && ordL rd (S ++ [y]) (s ++ [x])) = (frB rd S y && ordL rd (S ++ [y]) s && frB rd (S ++ y :: s) x)
    rw [ord_snoc s (S ++ [y]) x, Bool.and_assoc, List.append_assoc, List.singleton_append]
theorem grow_filt : ∀ ws : List (List Nat), (grow n ws).filter (ordL rd []) = (ws.filter (ordL rd [])).flatMap fun s => (freeV n rd s).map fun x => s ++ [x]
  | [] => rfl
  | w :: ws => by
    have ih := grow_filt ws
    have e : grow n (w :: ws) = ((List.range n).map fun i => w ++ [i]) ++ grow n ws := rfl
    rw [e, List.filter_append, ih, List.filter_map]
    have f : (ordL rd [] ∘ fun i => w ++ [i]) = fun i => ordL rd [] w && frB rd w i := by
      funext i
      exact ord_snoc rd w [] i
    rw [f, List.filter_cons]
    cases q : ordL rd [] w with
    | false =>
      have : (List.range n).filter (fun i => false && frB rd w i) = [] := List.filter_eq_nil_iff.mpr fun i _ z => by simp at z
      rw [this]
      rfl
    | true =>
      rw [if_pos rfl, List.flatMap_cons]
      rfl
theorem V_succ (i : Nat) : Vv n rd (i + 1) = (Vv n rd i).flatMap fun s => (freeV n rd s).map fun x => s ++ [x] := grow_filt n rd (growN n i)
theorem growN_lt : ∀ (i : Nat) (w : List Nat), w ∈ growN n i → ∀ k ∈ w, k < n
  | 0, w, h, k, hk => by
    rw [List.mem_singleton.mp h] at hk
    cases hk
  | i + 1, w, h, k, hk => by
    obtain ⟨v, hv, j, hj, rfl⟩ := grow_mem.mp h
    rcases List.mem_append.mp hk with hk | hk
    · exact growN_lt i v hv k hk
    · rw [List.mem_singleton.mp hk]
      exact hj
theorem fr_congr {S T : List Nat} (h : ∀ k, k ∈ S ↔ k ∈ T) (x : Nat) : frB rd S x = frB rd T x := by
  unfold frB
  rw [decide_eq_decide.mpr (h x)]
  congr 1
  rw [Bool.eq_iff_iff, List.all_eq_true, List.all_eq_true]
  exact ⟨fun q k hk => decide_eq_true ((h k).mp (of_decide_eq_true (q k hk))), fun q k hk => decide_eq_true ((h k).mpr (of_decide_eq_true (q k hk)))⟩
theorem free_asc {s : List Nat} (h : ∀ k ∈ s, k < n) : freeV n rd (ascN s n) = freeV n rd s := by
  unfold freeV
  refine List.filter_congr fun x _ => ?_
  exact fr_congr rd (fun k => by rw [mem_asc]; exact ⟨fun z => z.2, fun z => ⟨h k z, z⟩⟩) x
theorem nxt_asc (s : List Nat) (x : Nat) : nxtV n (ascN s n) x = ascN (s ++ [x]) n := by
  unfold nxtV
  refine List.filter_congr fun k hk => ?_
  have hk := List.mem_range.mp hk
  refine decide_eq_decide.mpr ?_
  rw [List.mem_append, List.mem_append, mem_asc]
  constructor
  · rintro (⟨_, z⟩ | z)
    · exact .inl z
    · exact .inr z
  · rintro (z | z)
    · exact .inl ⟨hk, z⟩
    · exact .inr z
theorem sum_flat {α β : Type} (f : α → List β) (g : β → Nat) : ∀ l : List α, ((l.flatMap f).map g).sum = (l.map fun a => ((f a).map g).sum).sum
  | [] => rfl
  | a :: l => by
    rw [List.flatMap_cons, List.map_append, List.sum_append, sum_flat f g l, List.map_cons, List.sum_cons]
theorem Psi (i j : Nat) : ((Vv n rd i).map fun s => Wv n rd (j + 1) (ascN s n)).sum = ((Vv n rd (i + 1)).map fun s => Wv n rd j (ascN s n)).sum := by
  rw [V_succ, sum_flat]
  congr 1
  refine List.map_congr_left fun s hs => ?_
  have hlt := growN_lt n i s (List.mem_filter.mp hs).1
  show ((freeV n rd (ascN s n)).map fun x => Wv n rd j (nxtV n (ascN s n) x)).sum = (((freeV n rd s).map fun x => s ++ [x]).map fun s => Wv n rd j (ascN s n)).sum
  rw [free_asc n rd hlt, List.map_map]
  congr 1
  refine List.map_congr_left fun x _ => ?_
  rw [nxt_asc]
  rfl
theorem Psi_all : ∀ (j i : Nat), ((Vv n rd i).map fun s => Wv n rd j (ascN s n)).sum = ((Vv n rd (i + j)).map fun s => Wv n rd 0 (ascN s n)).sum
  | 0, i => rfl
  | j + 1, i => by
    rw [Psi, Psi_all j (i + 1)]
    have : i + 1 + j = i + (j + 1) := by omega
    rw [this]
theorem sum_one {α : Type} : ∀ l : List α, (l.map fun _ => 1).sum = l.length
  | [] => rfl
  | a :: l => by rw [List.map_cons, List.sum_cons, sum_one l, List.length_cons]; omega
theorem asc_nil : ascN [] n = [] := List.filter_eq_nil_iff.mpr fun i _ z => by simp at z
theorem V_len : (Vv n rd n).length = Wv n rd n [] := by
  have h := Psi_all n rd n 0
  rw [Nat.zero_add] at h
  have e : ((Vv n rd n).map fun s => Wv n rd 0 (ascN s n)).sum = (Vv n rd n).length := sum_one _
  rw [e] at h
  rw [← h]
  show Wv n rd n (ascN [] n) + 0 = Wv n rd n []
  rw [asc_nil, Nat.add_zero]
/-! the table of sets and counts -/
abbrev Tb := List (List Nat) × (List Nat → Nat)
def addTb (p : Tb) (k : List Nat) (c : Nat) : Tb := (if k ∈ p.1 then p.1 else p.1 ++ [k], fun j => if j = k then (if k ∈ p.1 then p.2 k else 0) + c else p.2 j)
def Phi (W : List Nat → Nat) (p : Tb) : Nat := (p.1.map fun k => p.2 k * W k).sum
theorem sum_upd {k : List Nat} {c : Nat} {m W : List Nat → Nat} : ∀ {ks : List (List Nat)}, ks.Nodup → k ∈ ks → (ks.map fun j => (if j = k then m k + c else m j) * W j).sum = (ks.map fun j => m j * W j).sum + c * W k
  | [], _, h => nomatch h
  | a :: ks, hn, h => by
    obtain ⟨h1, h2⟩ := List.nodup_cons.mp hn
    rw [List.map_cons, List.sum_cons, List.map_cons, List.sum_cons]
    by_cases e : a = k
    · subst e
      have : (ks.map fun j => (if j = a then m a + c else m j) * W j) = ks.map fun j => m j * W j := List.map_congr_left fun j hj => by
        have hne : ¬ j = a := fun z => h1 (by rw [← z]; exact hj)
        rw [if_neg hne]
      rw [this, if_pos rfl, Nat.add_mul]
      omega
    · rcases List.mem_cons.mp h with z | z
      · exact absurd z.symm e
      · rw [sum_upd h2 z, if_neg e]
        omega
theorem Phi_add (W : List Nat → Nat) {p : Tb} (hn : p.1.Nodup) (k : List Nat) (c : Nat) : Phi W (addTb p k c) = Phi W p + c * W k := by
  unfold Phi addTb
  dsimp only
  by_cases h : k ∈ p.1
  · simp only [if_pos h]
    exact sum_upd hn h
  · simp only [if_neg h]
    rw [List.map_append, List.sum_append]
    congr 1
    · congr 1
      refine List.map_congr_left fun j hj => ?_
      have hne : ¬ j = k := fun z => h (by rw [← z]; exact hj)
      rw [if_neg hne]
    · show (if k = k then 0 + c else p.2 k) * W k + 0 = _
      rw [if_pos rfl, Nat.zero_add, Nat.add_zero]
theorem add_nd {p : Tb} (hn : p.1.Nodup) (k : List Nat) (c : Nat) : (addTb p k c).1.Nodup := by
  unfold addTb
  dsimp only
  by_cases h : k ∈ p.1
  · rw [if_pos h]
    exact hn
  · rw [if_neg h]
    refine List.nodup_append.mpr ⟨hn, List.pairwise_singleton _ _, fun x hx y hy e => ?_⟩
    rw [List.mem_singleton.mp hy] at e
    exact h (e ▸ hx)
theorem add_len (p : Tb) (k : List Nat) (c : Nat) : (addTb p k c).1.length ≤ p.1.length + 1 := by
  unfold addTb
  dsimp only
  split
  · omega
  · rw [List.length_append]
    exact Nat.le_refl _
def stIn (S : List Nat) (c : Nat) (p : Tb) (xs : List Nat) : Tb := xs.foldl (fun p x => addTb p (nxtV n S x) c) p
theorem in_all (W : List Nat → Nat) (S : List Nat) (c : Nat) : ∀ (xs : List Nat) (p : Tb), p.1.Nodup → (stIn n S c p xs).1.Nodup ∧ Phi W (stIn n S c p xs) = Phi W p + c * (xs.map fun x => W (nxtV n S x)).sum ∧ (stIn n S c p xs).1.length ≤ p.1.length + xs.length
  | [], p, h => ⟨h, by show Phi W p = Phi W p + c * 0; omega, Nat.le_refl _⟩
  | x :: xs, p, h => by
    obtain ⟨a, b, d⟩ := in_all W S c xs (addTb p (nxtV n S x) c) (add_nd h _ _)
    refine ⟨a, ?_, ?_⟩
    · show Phi W (stIn n S c (addTb p (nxtV n S x) c) xs) = _
      rw [b, Phi_add W h, List.map_cons, List.sum_cons, Nat.mul_add]
      omega
    · have := add_len p (nxtV n S x) c
      rw [List.length_cons]
      show (stIn n S c (addTb p (nxtV n S x) c) xs).1.length ≤ _
      omega
def stOut (m : List Nat → Nat) (p : Tb) (ks : List (List Nat)) : Tb := ks.foldl (fun p S => stIn n S (m S) p (freeV n rd S)) p
theorem free_len (S : List Nat) : (freeV n rd S).length ≤ n := by
  have := List.length_filter_le (frB rd S) (List.range n)
  rwa [List.length_range] at this
theorem out_all (m : List Nat → Nat) (j : Nat) : ∀ (ks : List (List Nat)) (p : Tb), p.1.Nodup → (stOut n rd m p ks).1.Nodup ∧ Phi (Wv n rd j) (stOut n rd m p ks) = Phi (Wv n rd j) p + (ks.map fun S => m S * Wv n rd (j + 1) S).sum ∧ (stOut n rd m p ks).1.length ≤ p.1.length + ks.length * n
  | [], p, h => ⟨h, rfl, by show p.1.length ≤ p.1.length + 0 * n; omega⟩
  | S :: ks, p, h => by
    obtain ⟨a, b, c⟩ := in_all n (Wv n rd j) S (m S) (freeV n rd S) p h
    obtain ⟨d, e, f⟩ := out_all m j ks (stIn n S (m S) p (freeV n rd S)) a
    refine ⟨d, ?_, ?_⟩
    · show Phi (Wv n rd j) (stOut n rd m (stIn n S (m S) p (freeV n rd S)) ks) = _
      rw [e, b, List.map_cons, List.sum_cons]
      show Phi (Wv n rd j) p + m S * Wv n rd (j + 1) S + _ = _
      omega
    · have := free_len n rd S
      rw [List.length_cons, Nat.succ_mul]
      show (stOut n rd m (stIn n S (m S) p (freeV n rd S)) ks).1.length ≤ _
      omega
def z0 : Tb := ([], fun _ => 0)
def Dv : Nat → Tb
  | 0 => ([[]], fun _ => 1)
  | i + 1 => stOut n rd (Dv i).2 z0 (Dv i).1
theorem D_all : ∀ i : Nat, (Dv n rd i).1.Nodup ∧ (∀ j, Phi (Wv n rd j) (Dv n rd i) = Wv n rd (j + i) []) ∧ (Dv n rd i).1.length ≤ n ^ i
  | 0 => ⟨List.pairwise_singleton _ _, fun j => by show 1 * Wv n rd j [] + 0 = Wv n rd (j + 0) []; rw [Nat.one_mul, Nat.add_zero, Nat.add_zero], Nat.le_refl 1⟩
  | i + 1 => by
    obtain ⟨a, b, c⟩ := D_all i
    have o := fun j => out_all n rd (Dv n rd i).2 j (Dv n rd i).1 z0 List.nodup_nil
    refine ⟨(o 0).1, fun j => ?_, ?_⟩
    · show Phi (Wv n rd j) (stOut n rd (Dv n rd i).2 z0 (Dv n rd i).1) = _
      rw [(o j).2.1]
      show 0 + Phi (Wv n rd (j + 1)) (Dv n rd i) = _
      rw [b (j + 1), Nat.zero_add]
      have : j + 1 + i = j + (i + 1) := by omega
      rw [this]
    · have h := (o 0).2.2
      rw [Nat.pow_succ]
      show (stOut n rd (Dv n rd i).2 z0 (Dv n rd i).1).1.length ≤ _
      refine Nat.le_trans h ?_
      show 0 + (Dv n rd i).1.length * n ≤ _
      rw [Nat.zero_add]
      exact Nat.mul_le_mul_right n c
theorem D_sum : ((Dv n rd n).1.map (Dv n rd n).2).sum = (Vv n rd n).length := by
  have h := (D_all n rd n).2.1 0
  rw [Nat.zero_add, ← V_len] at h
  rw [← h]
  unfold Phi
  congr 1
  refine List.map_congr_left fun k _ => ?_
  exact (Nat.mul_one _).symm
/-- keys are sets of numbers below n -/
def kOk (S : List Nat) : Prop := S.Nodup ∧ ∀ k ∈ S, k < n
theorem asc_ok (S : List Nat) : kOk n (ascN S n) := by
  refine ⟨List.Pairwise.filter _ List.nodup_range, fun k hk => (mem_asc.mp hk).1⟩
theorem asc_len {S : List Nat} : (ascN S n).length ≤ n := by
  have := List.length_filter_le (fun i => decide (i ∈ S)) (List.range n)
  rwa [List.length_range] at this
theorem in_ok (S : List Nat) (c : Nat) : ∀ (xs : List Nat) (p : Tb), (∀ k ∈ p.1, kOk n k ∧ k.length ≤ n) → ∀ k ∈ (stIn n S c p xs).1, kOk n k ∧ k.length ≤ n
  | [], p, h => h
  | x :: xs, p, h => in_ok S c xs (addTb p (nxtV n S x) c) fun k hk => by
    unfold addTb at hk
    dsimp only at hk
    split at hk
    · exact h k hk
    · rcases List.mem_append.mp hk with z | z
      · exact h k z
      · rw [List.mem_singleton.mp z]
        exact ⟨asc_ok n _, asc_len n⟩
theorem out_ok (m : List Nat → Nat) : ∀ (ks : List (List Nat)) (p : Tb), (∀ k ∈ p.1, kOk n k ∧ k.length ≤ n) → ∀ k ∈ (stOut n rd m p ks).1, kOk n k ∧ k.length ≤ n
  | [], p, h => h
  | S :: ks, p, h => out_ok m ks _ (in_ok n S (m S) (freeV n rd S) p h)
theorem D_ok : ∀ i : Nat, ∀ k ∈ (Dv n rd i).1, kOk n k ∧ k.length ≤ n
  | 0, k, h => by
    rw [List.mem_singleton.mp h]
    exact ⟨⟨List.nodup_nil, fun _ z => nomatch z⟩, Nat.zero_le _⟩
  | i + 1, k, h => out_ok n rd _ _ z0 (fun _ z => nomatch z) k h
end
end Sb
namespace Sb
open PySem PySem.Spec PyProof.Rows L2
/-! ### count_orders -/
def rdR (R : Rc) (j : Nat) : List Nat := rdS (R.ss.getD j ("", [])).2
def rowD (s : Stp) : PyData := .list ((rdS s.2).map natD)
section
variable {R : Rc}
theorem lc_rd (x0 c a b : Option Sv) (n : Nat) : ∀ rs : List Rd, lcL (tgT [(tgN 4), (tgN 5)]) [4, 5] (bT (fOp2 (seeB (eqD false)) (fVar 4) (fC (.str "step")))) (fVar 5) (rs.map encR) [x0, c, a, b, none, none] n = some ((rdS rs).map natD, n)
  | [] => rfl
  | r :: rs => by
    have ih := lc_rd x0 c a b n rs
    let e1 : Ev := [x0, c, a, b, some (.d (.str r.1)), some (.d (natD r.2))]
    have e2 : tgT [(tgN 4), (tgN 5)] (encR r) (wipeE [x0, c, a, b, none, none] [4, 5]) = some e1 := rfl
    have t : bT (fOp2 (seeB (eqD false)) (fVar 4) (fC (.str "step"))) e1 n = some (decide (r.1 = ("step" : Str)), n) := bt (cmp_ev (a := .str r.1) (b := .str "step") rfl rfl (by
      show some (PyData.bool (decide (r.1 = ("step" : Str)) != false)) = _
      rw [Bool.bne_false]))
    have v : fVar 5 e1 n = some (.d (natD r.2), n) := rfl
    unfold rdS at ih ⊢
    rw [List.map_cons, List.filter_cons]
    by_cases h : r.1 = ("step" : Str)
    · rw [decide_eq_true h] at t ⊢
      simp only [lcL, e2, t, v, Sv.take, ih, if_true, List.map_cons]
    · rw [decide_eq_false h] at t ⊢
      simp only [lcL, e2, t, ih, Bool.false_eq_true, if_false]
theorem sr_loop (x0 : Option Sv) (n : Nat) : ∀ (ss : List Stp) (F : List PyData), F.length + ss.length ≤ 100 → (∀ s ∈ ss, s.2.length ≤ 100) →
    forL (tgT [(tgN 2), (tgN 3)]) [2, 3] (sApp 1 (fLc (itSee (fVar 3)) (tgT [(tgN 4), (tgN 5)]) [4, 5] (bT (fOp2 (seeB (eqD false)) (fVar 4) (fC (.str "step")))) (fVar 5))) (ss.map encS) [x0, some (.cell F), none, none, none, none] n = some (.nx, [x0, some (.cell (F ++ ss.map rowD)), none, none, none, none], n)
  | [], F, _, _ => by
    rw [show ([] : List Stp).map rowD = [] from rfl, List.append_nil]
    rfl
  | s :: ss, F, hl, hr => by
    rw [List.length_cons] at hl
    have ih := sr_loop x0 n ss (F ++ [rowD s]) (by rw [List.length_append, List.length_singleton]; omega) fun t ht => hr t (List.mem_cons_of_mem _ ht)
    rw [List.append_assoc, List.singleton_append] at ih
    let e1 : Ev := [x0, some (.cell F), some (.d (.str s.1)), some (.d (.tuple (s.2.map encR))), none, none]
    have lc := lc_ev' (it := itSee (fVar 3)) (e := e1) (n := n) (n1 := n) (xs := s.2.map encR) rfl (len_big (by rw [List.length_map]; have := hr s List.mem_cons_self; omega)) (lc_rd x0 (some (.cell F)) (some (.d (.str s.1))) (some (.d (.tuple (s.2.map encR)))) n s.2)
    have st : sApp 1 (fLc (itSee (fVar 3)) (tgT [(tgN 4), (tgN 5)]) [4, 5] (bT (fOp2 (seeB (eqD false)) (fVar 4) (fC (.str "step")))) (fVar 5)) e1 n = some (.nx, [x0, some (.cell (F ++ [rowD s])), some (.d (.str s.1)), some (.d (.tuple (s.2.map encR))), none, none], n) := by
      unfold sApp
      rw [lc]
      show (if F.length < big then some (Fl.nx, e1.set 1 (some (.cell (F ++ [rowD s]))), n) else none) = _
      rw [if_pos (len_bigL (by omega))]
      rfl
    exact forL_c (e1 := e1) rfl st rfl ih
theorem rd_len (hR : R.Ok) {s : Stp} (hs : s ∈ R.ss) : s.2.length ≤ 100 := by
  obtain ⟨j, hj⟩ := List.mem_iff_getElem?.mp hs
  obtain ⟨h1, _⟩ := hR.st j s hj
  have := read_le h1
  omega
theorem m_steps_read (hR : R.Ok) (n : Nat) : F_steps_read [.d R.enc] n = some (.cell (R.ss.map rowD), n) := by
  have s8 := hR.s8
  have lp := sr_loop (some (.d R.enc)) n R.ss [] (by rw [List.length_nil]; omega) fun s hs => rd_len hR hs
  rw [List.nil_append] at lp
  have it : itTake (fOp2 (seeB ixD) (fVar 0) (fC (.int 1))) [some (.d R.enc), some (.cell []), none, none, none, none] n = some (R.ss.map encS, n) := rfl
  exact run_g rfl (g_set (sv := .cell []) (n1 := n) rfl rfl (g_runS it (len_big (by rw [List.length_map]; omega)) lp ⟨_, rfl⟩))
/-! free steps -/
theorem in_T50 (neg : Bool) (i : Nat) (S : List Nat) : inD neg (natD i) (wD S) = some (.bool (decide (i ∈ S) != neg)) := by
  show (if SeqAt.shaped (natD i) = true ∧ PyData.canLayAll0 (S.map natD) = true then some (PyData.bool (((S.map natD).any fun z => PyData.eqv z (natD i)) != neg)) else none) = _
  rw [if_pos ⟨shaped_N i, lay_N S⟩, any_N]
def frT : FT := (tAndF (bT (fOp2 (seeB (inD true)) (fVar 3) (fVar 1))) (bT (fOp2 (seeB (eqD false)) (fLc (itSee (fVar 4)) (tgN 5) [5] (bT (fOp2 (seeB (inD true)) (fVar 5) (fVar 1))) (fVar 5)) (fLst faNil))))
def frE (x0 : Option Sv) (S F : List Nat) (a b : Option Sv) : Ev := [x0, some (.d (wD S)), some (.cell (F.map natD)), a, b, none]
theorem fr_test (x0 : Option Sv) (S F : List Nat) (k : Nat) (l : List Nat) (hl : l.length ≤ 100) (n : Nat) : frT (frE x0 S F (some (.d (natD k))) (some (.d (.list (l.map natD))))) n = some (!decide (k ∈ S) && l.all (fun j => decide (j ∈ S)), n) := by
  let e := frE x0 S F (some (.d (natD k))) (some (.d (.list (l.map natD))))
  have t1 : bT (fOp2 (seeB (inD true)) (fVar 3) (fVar 1)) e n = some (!decide (k ∈ S), n) := bt (cmp_ev (a := natD k) (b := wD S) rfl rfl (by rw [in_T50, Bool.bne_true]))
  have lf := lc_filt (i := 5) (t := bT (fOp2 (seeB (inD true)) (fVar 5) (fVar 1))) (e := e) (n := n) (p := fun j => !decide (j ∈ S)) rfl (js := l) fun j _ => bt (cmp_ev (a := natD j) (b := wD S) rfl rfl (by rw [in_T50, Bool.bne_true]))
  have lc := lc_ev' (it := itSee (fVar 4)) (e := e) (n := n) (n1 := n) (xs := l.map natD) rfl (len_big (by rw [List.length_map]; omega)) lf
  have t2 := bt (cmp_see (g := eqD false) (fb := fLst faNil) (sb := .cell []) lc rfl rfl rfl (eq_nil false (shaped_nats (l.filter fun j => !decide (j ∈ S)))))
  have e2 : ((l.filter fun j => !decide (j ∈ S)).map natD).isEmpty = l.all (fun j => decide (j ∈ S)) := by
    rw [Bool.eq_iff_iff, List.isEmpty_iff, List.map_eq_nil_iff, List.filter_eq_nil_iff, List.all_eq_true]
    exact ⟨fun h j hj => by have := h j hj; simpa using this, fun h j hj => by have := h j hj; simpa using this⟩
  rw [Bool.bne_false, e2] at t2
  unfold frT
  refine (and_t t1).trans ?_
  cases q : (!decide (k ∈ S)) with
  | false => rfl
  | true =>
    rw [if_pos rfl]
    exact t2
def frB50 : FS := sIf frT (sApp 2 (fVar 3)) sNx
def frF (S : List Nat) : Nat → List Stp → List Nat
  | _, [] => []
  | k, s :: ss => (if (!decide (k ∈ S) && (rdS s.2).all (fun j => decide (j ∈ S))) = true then [k] else []) ++ frF S (k + 1) ss
theorem fr_loop (x0 : Option Sv) (S : List Nat) (n : Nat) : ∀ (ss : List Stp) (k : Nat) (F : List Nat), F.length + ss.length ≤ 100 → (∀ s ∈ ss, s.2.length ≤ 100) →
    forL (tgT [(tgN 3), (tgN 4)]) [3, 4] frB50 (pairsD k (ss.map rowD)) (frE x0 S F none none) n = some (.nx, frE x0 S (F ++ frF S k ss) none none, n)
  | [], k, F, _, _ => by
    show some (Fl.nx, frE x0 S F none none, n) = some (.nx, frE x0 S (F ++ []) none none, n)
    rw [List.append_nil]
  | s :: ss, k, F, hl, hr => by
    rw [List.length_cons] at hl
    have hs : (rdS s.2).length ≤ 100 := by
      unfold rdS
      rw [List.length_map]
      exact Nat.le_trans (List.length_filter_le _ _) (hr s List.mem_cons_self)
    have t := fr_test x0 S F k (rdS s.2) hs n
    let b := (!decide (k ∈ S) && (rdS s.2).all (fun j => decide (j ∈ S)))
    have ih := fr_loop x0 S n ss (k + 1) (F ++ (if b = true then [k] else [])) (by
      rw [List.length_append]
      split
      · show F.length + 1 + ss.length ≤ 100; omega
      · show F.length + 0 + ss.length ≤ 100; omega) fun t ht => hr t (List.mem_cons_of_mem _ ht)
    rw [List.append_assoc] at ih
    have st : frB50 (frE x0 S F (some (.d (natD k))) (some (.d (rowD s)))) n = some (.nx, frE x0 S (F ++ (if b = true then [k] else [])) (some (.d (natD k))) (some (.d (rowD s))), n) := by
      refine (if_st t).trans ?_
      show (if b = true then _ else _) = _
      by_cases h : b = true
      · rw [if_pos h, if_pos h]
        refine (app_ev (y := natD k) (xs := F.map natD) rfl rfl (len_bigL (by rw [List.length_map]; omega))).trans ?_
        rw [show F.map natD ++ [natD k] = (F ++ [k]).map natD by rw [List.map_append]; rfl]
        rfl
      · rw [if_neg h, if_neg h, List.append_nil]
        rfl
    exact forL_c (e1 := frE x0 S F (some (.d (natD k))) (some (.d (rowD s)))) rfl st rfl ih
theorem frF_eq (S : List Nat) : ∀ (ss : List Stp) (k : Nat), (∀ i, ss[i]? = R.ss[k + i]?) → frF S k ss = (List.range' k ss.length).filter (frB (rdR R) S)
  | [], k, _ => rfl
  | s :: ss, k, h => by
    have ih := frF_eq S ss (k + 1) fun i => by
      have := h (i + 1)
      rw [List.getElem?_cons_succ] at this
      rw [this]
      congr 1
      omega
    have h0 := h 0
    rw [List.getElem?_cons_zero, Nat.add_zero] at h0
    have e : rdR R k = rdS s.2 := by
      unfold rdR
      rw [List.getD_eq_getElem?_getD, ← h0]
      rfl
    rw [List.length_cons, List.range'_succ, List.filter_cons]
    show (if (!decide (k ∈ S) && (rdS s.2).all (fun j => decide (j ∈ S))) = true then [k] else []) ++ frF S (k + 1) ss = _
    have eb : frB (rdR R) S k = (!decide (k ∈ S) && (rdS s.2).all (fun j => decide (j ∈ S))) := by
      unfold frB
      rw [e]
    rw [eb, ih]
    by_cases q : (!decide (k ∈ S) && (rdS s.2).all (fun j => decide (j ∈ S))) = true
    · rw [if_pos q, if_pos q]
      rfl
    · rw [if_neg q, if_neg q]
      rfl
theorem m_free (hR : R.Ok) (S : List Nat) (n : Nat) : F_free_steps [.d (.list (R.ss.map rowD)), .d (wD S)] n = some (.cell ((freeV R.ss.length (rdR R) S).map natD), n) := by
  have s8 := hR.s8
  have lp := fr_loop (some (.d (.list (R.ss.map rowD)))) S n R.ss 0 [] (by rw [List.length_nil]; omega) fun s hs => rd_len hR hs
  rw [List.nil_append, frF_eq (R := R) S R.ss 0 (fun i => by rw [Nat.zero_add]), ← List.range_eq_range'] at lp
  have it : itEnum (faCons (fVar 0) faNil) (frE (some (.d (.list (R.ss.map rowD)))) S [] none none) n = some (pairsD 0 (R.ss.map rowD), n) := rfl
  exact run_g rfl (g_set (sv := .cell []) (n1 := n) rfl rfl (g_runS (e := frE (some (.d (.list (R.ss.map rowD)))) S [] none none) it (len_big (by rw [pairsD_len, List.length_map]; omega)) lp ⟨_, rfl⟩))
end
end Sb
namespace Sb
open PySem PySem.Spec PyProof.Rows L2
theorem set_e50 {i : Nat} {f : FE} {e n n1} {sv : Sv} (h : f e n = some (sv, n1)) (ho : sv.own = true) : sAsg i f e n = some (.nx, e.set i (some sv), n1) := by
  simp only [sAsg, h, ho, if_true]
/-! ### count_orders: the table -/
def tbD (p : Tb) : List (PyData × PyData) := tabF (fun k => natD (p.2 k)) p.1
theorem getT_Tb (p : Tb) (k : List Nat) : (getT (tbD p) (wD k)).getD (.int 0) = natD (if k ∈ p.1 then p.2 k else 0) := by
  unfold tbD
  rw [getT_F]
  by_cases h : k ∈ p.1
  · rw [if_pos h, if_pos h]
    rfl
  · rw [if_neg h, if_neg h]
    rfl
theorem putT_Tb (p : Tb) (k : List Nat) (c : Nat) : putT (tbD p) (wD k) (natD ((if k ∈ p.1 then p.2 k else 0) + c)) = tbD (addTb p k c) := by
  unfold putT tbD addTb
  rw [getT_F]
  by_cases h : k ∈ p.1
  · simp only [if_pos h]
    rw [if_pos (show (some (natD (p.2 k)) : Option PyData).isSome = true from rfl)]
    unfold tabF
    rw [List.map_map]
    refine List.map_congr_left fun j _ => ?_
    show (if nkT (wD j) = nkT (wD k) then (wD j, natD (p.2 k + c)) else (wD j, natD (p.2 j))) = (wD j, natD (if j = k then p.2 k + c else p.2 j))
    by_cases q : j = k
    · rw [if_pos ((keyW_iff j k).mpr q), if_pos q]
    · rw [if_neg (fun z => q ((keyW_iff j k).mp z)), if_neg q]
  · simp only [if_neg h]
    rw [if_neg (show ¬ (none : Option PyData).isSome = true by decide)]
    unfold tabF
    rw [List.map_append]
    congr 1
    · refine List.map_congr_left fun j hj => ?_
      have hne : ¬ j = k := fun z => h (by rw [← z]; exact hj)
      show (wD j, natD (p.2 j)) = (wD j, natD (if j = k then 0 + c else p.2 j))
      rw [if_neg hne]
    · show [(wD k, natD (0 + c))] = [(wD k, natD (if k = k then 0 + c else p.2 k))]
      rw [if_pos rfl]
section
variable {R : Rc}
def e50 (R : Rc) (x1 x2 x4 x5 x6 x7 x8 : Option Sv) : Ev := [some (.d R.enc), x1, x2, none, x4, x5, x6, x7, x8]
def e50i (R : Rc) (x1 x2 x3 x4 x5 x6 x7 x8 : Option Sv) : Ev := [some (.d R.enc), x1, x2, x3, x4, x5, x6, x7, x8]
def cI : FS := (sSeq (sAsg 8 (fBi (see1 tupG) (faCons (fBi (see1 sortG) (faCons (fOp2 addL (fVar 5) (fTup (faCons (fVar 7) faNil))) faNil)) faNil)))
    (sFrz [8] (sPutT 4 (fVar 8) (fOp2 addL (fGetT 4 (fVar 8) (fC (.int 0))) (fVar 6)))))
def tb (p : Tb) : Option Sv := some (.tab true (tbD p))
theorem nk_W (k : List Nat) : (nkT (wD k)).isSome = true := by
  rw [nkT_W]
  rfl
theorem cI_step (x1 x2 x3 : Option Sv) (N : Nat) (S : List Nat) (c : Nat) (p : Tb) (x : Nat) (hS : kOk N S) (hx : x < N) (hxS : x ∉ S) (hl : S.length ≤ 100) (hp : p.1.length ≤ 90000) (n : Nat) (a8 : Option Sv) :
    cI (e50i R x1 x2 x3 (tb p) (some (.d (wD S))) (some (.d (natD c))) (some (.d (natD x))) a8) n = some (.nx, e50i R x1 x2 x3 (tb (addTb p (nxtV N S x) c)) (some (.d (wD S))) (some (.d (natD c))) (some (.d (natD x))) (some (.d (wD (nxtV N S x)))), n) := by
  let e := e50i R x1 x2 x3 (tb p) (some (.d (wD S))) (some (.d (natD c))) (some (.d (natD x))) a8
  have hnd : (S ++ [x]).Nodup := List.nodup_append.mpr ⟨hS.1, List.pairwise_singleton _ _, fun a ha b hb q => by
    rw [List.mem_singleton.mp hb] at q
    exact hxS (q ▸ ha)⟩
  have hlt : ∀ k ∈ S ++ [x], k < N := fun k hk => by
    rcases List.mem_append.mp hk with z | z
    · exact hS.2 k z
    · rw [List.mem_singleton.mp z]
      exact hx
  have ha : fOp2 addL (fVar 5) (fTup (faCons (fVar 7) faNil)) e n = some (.d (.tuple ((S ++ [x]).map natD)), n) := by
    have := catT_ev (f := fVar 5) (g := fTup (faCons (fVar 7) faNil)) (e := e) (n := n) (n1 := n) (n2 := n) (xs := S.map natD) (ys := [natD x]) rfl rfl (by rw [List.length_map]; show S.length + 1 ≤ 1000; omega)
    rw [this]
    congr 4
    rw [List.map_append]
    rfl
  have hs : fBi (see1 sortG) (faCons (fOp2 addL (fVar 5) (fTup (faCons (fVar 7) faNil))) faNil) e n = some (.cell ((nxtV N S x).map natD), n) := by
    refine bi_evQ (fa_c ha fa_n) ?_
    show (if sortOk ((S ++ [x]).map natD) = true then some (Sv.cell (sortD ((S ++ [x]).map natD))) else none) = _
    rw [if_pos (sortOk_N (by rw [List.length_append, List.length_singleton]; omega)), sort_N hnd hlt]
    rfl
  refine seq_q (set_e50 (tup_ev (.inl hs)) rfl) ?_
  let e8 := e50i R x1 x2 x3 (tb p) (some (.d (wD S))) (some (.d (natD c))) (some (.d (natD x))) (some (.d (wD (nxtV N S x))))
  have hg : fGetT 4 (fVar 8) (fC (.int 0)) e8 n = some (.d (natD (if nxtV N S x ∈ p.1 then p.2 (nxtV N S x) else 0)), n) := by
    show (if (nkT (wD (nxtV N S x))).isSome = true then some (Sv.d ((getT (tbD p) (wD (nxtV N S x))).getD (.int 0)), n) else none) = _
    rw [if_pos (nk_W _), getT_Tb]
  have hv : fOp2 addL (fGetT 4 (fVar 8) (fC (.int 0))) (fVar 6) e8 n = some (.d (natD ((if nxtV N S x ∈ p.1 then p.2 (nxtV N S x) else 0) + c)), n) := by
    unfold fOp2
    rw [hg]
    show (match fVar 6 e8 n with
      | none => none
      | some (b, n2) => match addL (.d (natD (if nxtV N S x ∈ p.1 then p.2 (nxtV N S x) else 0))) b with
        | none => none
        | some r => some (r, n2)) = _
    show some (Sv.d (.int (((if nxtV N S x ∈ p.1 then p.2 (nxtV N S x) else 0 : Nat) : Int) + (c : Int))), n) = _
    rw [← Int.natCast_add]
    rfl
  show sPutT 4 (fVar 8) (fOp2 addL (fGetT 4 (fVar 8) (fC (.int 0))) (fVar 6)) e8 n = _
  unfold sPutT
  rw [hv]
  show (if (nkT (wD (nxtV N S x))).isSome = true ∧ (tbD p).length < big then some (Fl.nx, e8.set 4 (some (.tab true (putT (tbD p) (wD (nxtV N S x)) (natD ((if nxtV N S x ∈ p.1 then p.2 (nxtV N S x) else 0) + c))))), n) else none) = _
  have hlen : (tbD p).length < big := by
    unfold tbD tabF
    rw [List.length_map]
    show p.1.length < 100000
    omega
  rw [if_pos ⟨nk_W _, hlen⟩, putT_Tb]
  rfl
theorem cI_loop (x1 x2 x3 : Option Sv) (N : Nat) (S : List Nat) (c : Nat) (hS : kOk N S) (hl : S.length ≤ 100) (n : Nat) : ∀ (xs : List Nat) (p : Tb), (∀ x ∈ xs, x < N ∧ x ∉ S) → p.1.length + xs.length ≤ 90000 →
    forL (tgN 7) [7, 8] cI (xs.map natD) (e50i R x1 x2 x3 (tb p) (some (.d (wD S))) (some (.d (natD c))) none none) n = some (.nx, e50i R x1 x2 x3 (tb (stIn N S c p xs)) (some (.d (wD S))) (some (.d (natD c))) none none, n)
  | [], p, _, _ => rfl
  | x :: xs, p, h, hp => by
    rw [List.length_cons] at hp
    obtain ⟨h1, h2⟩ := h x List.mem_cons_self
    have st := cI_step (R := R) x1 x2 x3 N S c p x hS h1 h2 hl (by omega) n none
    have := add_len p (nxtV N S x) c
    have ih := cI_loop x1 x2 x3 N S c hS hl n xs (addTb p (nxtV N S x) c) (fun y hy => h y (List.mem_cons_of_mem _ hy)) (by omega)
    exact forL_c (e1 := e50i R x1 x2 x3 (tb p) (some (.d (wD S))) (some (.d (natD c))) (some (.d (natD x))) none) rfl st rfl ih
def rows50 (R : Rc) : Option Sv := some (.d (.list (R.ss.map rowD)))
def is1 (R : Rc) (x1 : Option Sv) : Prop := x1 = some (.cell (R.ss.map rowD)) ∨ x1 = rows50 R
def cO : FS := sFrz [1] (sFor (itTake (fCall 2 F_free_steps (faCons (fVar 1) (faCons (fVar 5) faNil)))) (tgN 7) [7, 8] cI)
theorem cO_loop (hR : R.Ok) (x2 x3 : Option Sv) (m : List Nat → Nat) (n : Nat) {x1 : Option Sv} : is1 R x1 → ∀ (ks : List (List Nat)) (p : Tb), (∀ k ∈ ks, kOk R.ss.length k ∧ k.length ≤ R.ss.length) → p.1.length + ks.length * R.ss.length ≤ 90000 → p.1.Nodup →
    ∃ y1, is1 R y1 ∧ forL (tgT [(tgN 5), (tgN 6)]) [5, 6, 7, 8] cO (ks.map fun k => .tuple [wD k, natD (m k)]) (e50i R x1 x2 x3 (tb p) none none none none) n = some (.nx, e50i R y1 x2 x3 (tb (stOut R.ss.length (rdR R) m p ks)) none none none none, n)
  | h1, [], p, _, _, _ => ⟨x1, h1, rfl⟩
  | h1, S :: ks, p, hk, hp, hn => by
    have s8 := hR.s8
    rw [List.length_cons, Nat.succ_mul] at hp
    obtain ⟨o1, o2⟩ := hk S List.mem_cons_self
    have fl := free_len R.ss.length (rdR R) S
    obtain ⟨q1, _, q3⟩ := in_all R.ss.length (fun _ => 0) S (m S) (freeV R.ss.length (rdR R) S) p hn
    have st : cO (e50i R x1 x2 x3 (tb p) (some (.d (wD S))) (some (.d (natD (m S)))) none none) n = some (.nx, e50i R (rows50 R) x2 x3 (tb (stIn R.ss.length S (m S) p (freeV R.ss.length (rdR R) S))) (some (.d (wD S))) (some (.d (natD (m S)))) none none, n) := by
      have fz : frzE (e50i R x1 x2 x3 (tb p) (some (.d (wD S))) (some (.d (natD (m S)))) none none) [1] = e50i R (rows50 R) x2 x3 (tb p) (some (.d (wD S))) (some (.d (natD (m S)))) none none := by
        rcases h1 with rfl | rfl <;> rfl
      unfold cO sFrz
      rw [fz]
      have it : itTake (fCall 2 F_free_steps (faCons (fVar 1) (faCons (fVar 5) faNil))) (e50i R (rows50 R) x2 x3 (tb p) (some (.d (wD S))) (some (.d (natD (m S)))) none none) n = some ((freeV R.ss.length (rdR R) S).map natD, n) := itTake_c (call_ev (as := [.d (.list (R.ss.map rowD)), .d (wD S)]) rfl rfl (m_free hR S n))
      refine for_q it (len_big (by rw [List.length_map]; omega)) (cI_loop (rows50 R) x2 x3 R.ss.length S (m S) o1 (by omega) n _ p (fun x hx => ?_) (by omega))
      obtain ⟨z1, z2⟩ := List.mem_filter.mp hx
      refine ⟨List.mem_range.mp z1, fun z => ?_⟩
      unfold frB at z2
      rw [decide_eq_true z] at z2
      cases z2
    obtain ⟨y1, g1, ih⟩ := cO_loop hR x2 x3 m n (x1 := rows50 R) (.inr rfl) ks (stIn R.ss.length S (m S) p (freeV R.ss.length (rdR R) S)) (fun k hk' => hk k (List.mem_cons_of_mem _ hk')) (by omega) q1
    exact ⟨y1, g1, forL_c (e1 := e50i R x1 x2 x3 (tb p) (some (.d (wD S))) (some (.d (natD (m S)))) none none) rfl st rfl ih⟩
def is2 (p : Tb) (x2 : Option Sv) : Prop := x2 = some (.tab true (tbD p)) ∨ x2 = some (.ktab true (tbD p))
def cB : FS := (sSeq (sAsg 4 fNewT)
    (sSeq (sFrz [2] (sFor (itItems (fVar 2)) (tgT [(tgN 5), (tgN 6)]) [5, 6, 7, 8] cO))
    (sFrz [4] (sAsg 2 (fVar 4)))))
theorem pow_le {k i N : Nat} (hk : k ≤ N ^ i) (hN : N ≤ 5) (hi : i ≤ 5) : k ≤ 3125 := by
  have h1 : N ^ i ≤ 5 ^ i := Nat.pow_le_pow_left hN i
  have h2 : 5 ^ i ≤ 5 ^ 5 := Nat.pow_le_pow_right (by omega) hi
  have h3 : (5 : Nat) ^ 5 = 3125 := by decide
  omega
theorem cB_loop (hR : R.Ok) (h5 : R.ss.length ≤ 5) (n : Nat) : ∀ (ds : List PyData) (i : Nat) {x1 x2 : Option Sv}, is1 R x1 → is2 (Dv R.ss.length (rdR R) i) x2 → i + ds.length ≤ 5 →
    ∃ y1 y2, is1 R y1 ∧ is2 (Dv R.ss.length (rdR R) (i + ds.length)) y2 ∧ forL (tgN 3) [3, 4, 5, 6, 7, 8] cB ds (e50 R x1 x2 none none none none none) n = some (.nx, e50 R y1 y2 none none none none none, n)
  | [], i, x1, x2, h1, h2, _ => ⟨x1, x2, h1, h2, rfl⟩
  | d :: ds, i, x1, x2, h1, h2, hi => by
    rw [List.length_cons] at hi
    obtain ⟨a1, _, a3⟩ := D_all R.ss.length (rdR R) i
    have kl := pow_le a3 h5 (by omega)
    have hm : (Dv R.ss.length (rdR R) i).1.length * R.ss.length ≤ 3125 * 5 := Nat.mul_le_mul kl h5
    obtain ⟨y1, g1, lp⟩ := cO_loop hR (some (.ktab true (tbD (Dv R.ss.length (rdR R) i)))) (some (.d d)) (Dv R.ss.length (rdR R) i).2 n h1 (Dv R.ss.length (rdR R) i).1 z0 (D_ok R.ss.length (rdR R) i) (by show 0 + _ ≤ 90000; omega) List.nodup_nil
    obtain ⟨y1', y2, g1', g2, ih⟩ := cB_loop hR h5 n ds (i + 1) (x1 := y1) (x2 := some (.ktab true (tbD (Dv R.ss.length (rdR R) (i + 1))))) g1 (.inr rfl) (by omega)
    rw [show i + 1 + ds.length = i + (ds.length + 1) by omega] at g2
    refine ⟨y1', y2, g1', g2, ?_⟩
    have s1 : sAsg 4 fNewT (e50i R x1 x2 (some (.d d)) none none none none none) n = some (.nx, e50i R x1 x2 (some (.d d)) (tb z0) none none none none, n) := rfl
    have s2 : sFrz [2] (sFor (itItems (fVar 2)) (tgT [(tgN 5), (tgN 6)]) [5, 6, 7, 8] cO) (e50i R x1 x2 (some (.d d)) (tb z0) none none none none) n = some (.nx, e50i R y1 (some (.ktab true (tbD (Dv R.ss.length (rdR R) i)))) (some (.d d)) (tb (Dv R.ss.length (rdR R) (i + 1))) none none none none, n) := by
      have fz : frzE (e50i R x1 x2 (some (.d d)) (tb z0) none none none none) [2] = e50i R x1 (some (.ktab true (tbD (Dv R.ss.length (rdR R) i)))) (some (.d d)) (tb z0) none none none none := by
        rcases h2 with rfl | rfl <;> rfl
      unfold sFrz
      rw [fz]
      have it : itItems (fVar 2) (e50i R x1 (some (.ktab true (tbD (Dv R.ss.length (rdR R) i)))) (some (.d d)) (tb z0) none none none none) n = some ((Dv R.ss.length (rdR R) i).1.map (fun k => .tuple [wD k, natD ((Dv R.ss.length (rdR R) i).2 k)]), n) := by
        show some ((tbD (Dv R.ss.length (rdR R) i)).map pairT, n) = _
        unfold tbD tabF
        rw [List.map_map]
        rfl
      exact for_q it (by rw [List.length_map]; show _ ≤ 100000; omega) lp
    have st : cB (e50i R x1 x2 (some (.d d)) none none none none none) n = some (.nx, e50i R y1 (some (.ktab true (tbD (Dv R.ss.length (rdR R) (i + 1))))) (some (.d d)) (some (.ktab true (tbD (Dv R.ss.length (rdR R) (i + 1))))) none none none none, n) := seq_q s1 (seq_q s2 rfl)
    exact forL_c (e1 := e50i R x1 x2 (some (.d d)) none none none none none) rfl st rfl ih
theorem intsD50 : ∀ ns : List Nat, intsD (ns.map natD) = some (ns.map fun (i : Nat) => (i : Int))
  | [] => rfl
  | n :: ns => by
    have ih := intsD50 ns
    show (match intsD (ns.map natD) with
      | some bs => some ((n : Int) :: bs)
      | none => none) = _
    rw [ih]
    rfl
theorem sum50 : ∀ ns : List Nat, (ns.map fun (i : Nat) => (i : Int)).sum = ((ns.sum : Nat) : Int)
  | [] => rfl
  | n :: ns => by
    rw [List.map_cons, List.sum_cons, List.sum_cons, sum50 ns, Int.natCast_add]
theorem m_check_recipe50 (hR : R.Ok) (n : Nat) : ∃ z, F_check_recipe [.d R.enc] n = some (z, n) := ⟨_, m_check_recipe hR.rd hR.sm n⟩
theorem m_count_orders (hR : R.Ok) (h5 : R.ss.length ≤ 5) (n : Nat) : F_count_orders [.d R.enc] n = some (.d (natD (Vv R.ss.length (rdR R) R.ss.length).length), n) := by
  obtain ⟨z, hz⟩ := m_check_recipe50 hR n
  have it : itTake (fOp2 (seeB ixD) (fVar 0) (fC (.int 1))) (e50 R (some (.cell (R.ss.map rowD))) (some (.tab true (tbD (Dv R.ss.length (rdR R) 0)))) none none none none none) n = some (R.ss.map encS, n) := rfl
  obtain ⟨y1, y2, g1, g2, lp⟩ := cB_loop hR h5 n (R.ss.map encS) 0 (x1 := some (.cell (R.ss.map rowD))) (x2 := some (.tab true (tbD (Dv R.ss.length (rdR R) 0)))) (.inl rfl) (.inl rfl) (by rw [List.length_map]; omega)
  rw [List.length_map, Nat.zero_add] at g2
  refine run_g rfl (g_drop (call_ev (as := [.d R.enc]) rfl rfl hz) ?_)
  refine g_set (sv := .cell (R.ss.map rowD)) (n1 := n) (call_ev (as := [.d R.enc]) rfl rfl (m_steps_read hR n)) rfl ?_
  refine g_set (sv := .tab true (tbD (Dv R.ss.length (rdR R) 0))) (n1 := n) rfl rfl ?_
  refine g_runS it (len_big (by rw [List.length_map]; omega)) lp (g_frz (g_ret ?_))
  let D := Dv R.ss.length (rdR R) R.ss.length
  let e9 : Ev := frzE (e50 R y1 y2 none none none none none) [2]
  have v : fVar 2 e9 n = some (.ktab true (tbD D), n) := by
    show fVar 2 (frzE (e50 R y1 y2 none none none none none) [2]) n = _
    rcases g2 with rfl | rfl <;> rfl
  have lv : fListVs (fVar 2) e9 n = some (.cell ((D.1.map D.2).map natD), n) := by
    unfold fListVs
    rw [v]
    show some (Sv.cell ((tbD D).map (·.2)), n) = _
    unfold tbD tabF
    rw [List.map_map, List.map_map]
    rfl
  refine bi_evQ (fa_c lv fa_n) ?_
  show (match intsD ((D.1.map D.2).map natD) with
    | some bs => some (Sv.d (.int bs.sum))
    | none => none) = _
  rw [intsD50]
  show some (Sv.d (.int (((D.1.map D.2).map fun (i : Nat) => (i : Int)).sum))) = _
  rw [sum50, D_sum]
  rfl
end
end Sb
namespace Sb
open PySem PySem.Spec PyProof.Rows L2
/-! is_order_of (R50 cut) -/
section
variable {R : Rc}
/-! a loop that stops at the first for which a test holds -/
theorem for_any {t : FT} {i : Nat} {r : PyData} {e : Ev} {n : Nat} {p : PyData → Bool} (hi : e[i]? = some none) : ∀ {xs : List PyData}, (∀ x ∈ xs, t (e.set i (some (.d x))) n = some (p x, n)) → xs.any p = true → ∃ e', forL (tgN i) [i] (sIf t (sRet (fC r)) sNx) xs e n = some (.rt (.d r), e', n)
  | [], _, h => by cases h
  | x :: xs, h, ha => by
    have hx := h x List.mem_cons_self
    cases q : p x with
    | true =>
      rw [q] at hx
      exact ⟨_, forL_rt (e1 := e.set i (some (.d x))) rfl ((if_st hx).trans rfl)⟩
    | false =>
      rw [q] at hx
      rw [List.any_cons, q, Bool.false_or] at ha
      obtain ⟨e', k⟩ := for_any hi (fun y hy => h y (List.mem_cons_of_mem _ hy)) ha
      exact ⟨e', forL_c (e1 := e.set i (some (.d x))) rfl ((if_st hx).trans rfl) (nx_back hi) k⟩
/-! is_order_of -/
def oE (R : Rc) (x1 : Option Sv) (ks : List Nat) (a b : Option Sv) : Ev := [some (.d R.enc), x1, some (.cell (R.ss.map rowD)), some (.tab false (tabN ks)), a, b]
def oB : FS := (sSeq (sIf (bT (fOp2 (inIG false) (fVar 4) (fVar 3)))
    (sRet (fC (.bool false)))
    sNx)
    (sSeq (sFor (itTake (fOp2 (seeB ixD) (fVar 2) (fVar 4))) (tgN 5) [5]
    (sIf (bT (fOp2 (inIG true) (fVar 5) (fVar 3)))
    (sRet (fC (.bool false)))
    sNx))
    (sPutI 3 (fVar 4) (fC (.bool true)))))
theorem inI_ev (neg : Bool) {f g : FE} {e : Ev} {n : Nat} {x : Nat} {ks : List Nat} (h1 : f e n = some (.d (natD x), n)) (h2 : g e n = some (.btab false (tabN ks), n)) : bT (fOp2 (inIG neg) f g) e n = some (decide (x ∈ ks) != neg, n) := by
  refine bt ?_
  unfold fOp2
  rw [h1]
  dsimp only
  rw [h2]
  show (match (some (Sv.d (.bool ((getI (tabN ks) (x : Int)).isSome != neg)))) with
    | none => none
    | some r => some (r, n)) = _
  rw [getI_N]
  by_cases h : x ∈ ks
  · rw [if_pos h, decide_eq_true h]
    rfl
  · rw [if_neg h, decide_eq_false h]
    rfl
theorem o_step (hR : R.Ok) (x1 : Option Sv) (ks : List Nat) (hk : ks.length ≤ 100) {x : Nat} (hx : x < R.ss.length) (n : Nat) :
    (frB (rdR R) ks x = true → oB (oE R x1 ks (some (.d (natD x))) none) n = some (.nx, oE R x1 (ks ++ [x]) (some (.d (natD x))) none, n)) ∧
    (frB (rdR R) ks x = false → ∃ e', oB (oE R x1 ks (some (.d (natD x))) none) n = some (.rt (.d (.bool false)), e', n)) := by
  let e := oE R x1 ks (some (.d (natD x))) none
  have t1 := inI_ev false (f := fVar 4) (g := fVar 3) (e := e) (n := n) (x := x) (ks := ks) rfl rfl
  rw [Bool.bne_false] at t1
  have hg : R.ss[x]? = some (R.ss.getD x ("", [])) := getD_get hx
  have hrow : fOp2 (seeB ixD) (fVar 2) (fVar 4) e n = some (.d (rowD (R.ss.getD x ("", []))), n) := ix_nat (s := .bor (R.ss.map rowD)) (d := .list (R.ss.map rowD)) (i := x) rfl rfl (.inr rfl) rfl (by rw [List.getElem?_map, hg]; rfl)
  have it : itTake (fOp2 (seeB ixD) (fVar 2) (fVar 4)) e n = some ((rdR R x).map natD, n) := by
    unfold itTake
    rw [hrow]
    rfl
  have hlen : ((rdR R x).map natD).length ≤ big := len_big (by
    rw [List.length_map]
    unfold rdR rdS
    rw [List.length_map]
    have h1 := rd_len hR (List.mem_of_getElem? hg)
    have h2 := List.length_filter_le (fun r : Rd => decide (r.1 = ("step" : Str))) (R.ss.getD x ("", [])).2
    omega)
  have ht : ∀ d ∈ (rdR R x).map natD, bT (fOp2 (inIG true) (fVar 5) (fVar 3)) (e.set 5 (some (.d d))) n = some ((match d with
      | .int i => !decide (i.toNat ∈ ks)
      | _ => false), n) := fun d hd => by
    obtain ⟨j, _, rfl⟩ := List.mem_map.mp hd
    have := inI_ev true (f := fVar 5) (g := fVar 3) (e := e.set 5 (some (.d (natD j)))) (n := n) (x := j) (ks := ks) rfl rfl
    rw [Bool.bne_true] at this
    exact this
  have ha : ((rdR R x).map natD).any (fun d => match d with
      | .int i => !decide (i.toNat ∈ ks)
      | _ => false) = !(rdR R x).all (fun k => decide (k ∈ ks)) := by
    rw [List.any_map, List.not_all_eq_any_not]
    rfl
  constructor
  · intro h
    unfold frB at h
    rw [Bool.and_eq_true, Bool.not_eq_true', decide_eq_false_iff_not] at h
    obtain ⟨h1, h2⟩ := h
    rw [decide_eq_false h1] at t1
    have inn : sFor (itTake (fOp2 (seeB ixD) (fVar 2) (fVar 4))) (tgN 5) [5] (sIf (bT (fOp2 (inIG true) (fVar 5) (fVar 3))) (sRet (fC (.bool false))) sNx) e n = some (.nx, e, n) := for_q it hlen (for_none rfl fun d hd => by
      rw [ht d hd]
      obtain ⟨j, hj, rfl⟩ := List.mem_map.mp hd
      have : decide (j ∈ ks) = true := List.all_eq_true.mp h2 j hj
      show some (!decide (j ∈ ks), n) = _
      rw [this]
      rfl)
    refine seq_q (e1 := e) (n1 := n) ((if_st t1).trans rfl) (seq_q (e1 := e) (n1 := n) inn ?_)
    show sPutI 3 (fVar 4) (fC (.bool true)) e n = _
    have hl : (tabN ks).length < big := by
      unfold tabN
      rw [List.length_map]
      show _ < 100000
      omega
    show (if (tabN ks).length < big then some (Fl.nx, e.set 3 (some (.tab false (putI (tabN ks) (x : Int) (.bool true)))), n) else none) = _
    rw [if_pos hl, putI_N]
    unfold insN
    rw [if_neg h1]
    rfl
  · intro h
    by_cases h1 : x ∈ ks
    · rw [decide_eq_true h1] at t1
      exact ⟨e, seq_rtQ ((if_st t1).trans rfl)⟩
    · unfold frB at h
      rw [decide_eq_false h1] at h t1
      have h2 : (rdR R x).all (fun k => decide (k ∈ ks)) = false := h
      rw [h2] at ha
      obtain ⟨e', k⟩ := for_any (i := 5) (r := .bool false) (e := e) (n := n) rfl ht ha
      exact ⟨e', seq_q (e1 := e) ((if_st t1).trans rfl) (seq_rtQ (for_q it hlen k))⟩
theorem o_loop (hR : R.Ok) (x1 : Option Sv) (n : Nat) : ∀ (s ks : List Nat), ks.length + s.length ≤ 100 → (∀ x ∈ s, x < R.ss.length) →
    (ordL (rdR R) ks s = true → forL (tgN 4) [4, 5] oB (s.map natD) (oE R x1 ks none none) n = some (.nx, oE R x1 (ks ++ s) none none, n)) ∧
    (ordL (rdR R) ks s = false → ∃ e', forL (tgN 4) [4, 5] oB (s.map natD) (oE R x1 ks none none) n = some (.rt (.d (.bool false)), e', n))
  | [], ks, _, _ => ⟨fun _ => by rw [List.append_nil]; rfl, fun h => by cases h⟩
  | x :: s, ks, hl, hx => by
    rw [List.length_cons] at hl
    obtain ⟨a1, a2⟩ := o_step hR x1 ks (by omega) (hx x List.mem_cons_self) n
    obtain ⟨b1, b2⟩ := o_loop hR x1 n s (ks ++ [x]) (by rw [List.length_append, List.length_singleton]; omega) fun y hy => hx y (List.mem_cons_of_mem _ hy)
    constructor
    · intro h
      have h : (frB (rdR R) ks x && ordL (rdR R) (ks ++ [x]) s) = true := h
      rw [Bool.and_eq_true] at h
      have ih := b1 h.2
      rw [List.append_assoc, List.singleton_append] at ih
      exact forL_c (e1 := oE R x1 ks (some (.d (natD x))) none) rfl (a1 h.1) rfl ih
    · intro h
      have h : (frB (rdR R) ks x && ordL (rdR R) (ks ++ [x]) s) = false := h
      cases q : frB (rdR R) ks x with
      | false =>
        obtain ⟨e', k⟩ := a2 q
        exact ⟨e', forL_rt (e1 := oE R x1 ks (some (.d (natD x))) none) rfl k⟩
      | true =>
        rw [q, Bool.true_and] at h
        obtain ⟨e', k⟩ := b2 h
        exact ⟨e', forL_c (e1 := oE R x1 ks (some (.d (natD x))) none) rfl (a1 q) rfl k⟩
theorem m_is_order_of (hR : R.Ok) (s : List Nat) (hl : s.length ≤ 100) (hx : ∀ x ∈ s, x < R.ss.length) (n : Nat) : F_is_order_of [.d R.enc, .d (wD s)] n = some (.d (.bool (ordL (rdR R) [] s)), n) := by
  obtain ⟨a1, a2⟩ := o_loop hR (some (.d (wD s))) n s [] (by rw [List.length_nil]; omega) hx
  have it : itTake (fVar 1) (oE R (some (.d (wD s))) [] none none) n = some (s.map natD, n) := rfl
  have hb : (s.map natD).length ≤ big := len_big (by rw [List.length_map]; omega)
  refine run_g rfl (g_set (sv := .cell (R.ss.map rowD)) (n1 := n) (call_ev (as := [.d R.enc]) rfl rfl (m_steps_read hR n)) rfl (g_set (sv := .tab false []) (n1 := n) rfl rfl ?_))
  cases q : ordL (rdR R) [] s with
  | true => exact g_runS (e := oE R (some (.d (wD s))) [] none none) it hb (a1 q) (g_ret rfl)
  | false =>
    obtain ⟨e', k⟩ := a2 q
    exact ⟨e', seq_rtQ (for_q (e := oE R (some (.d (wD s))) [] none none) it hb k)⟩
end
end Sb
namespace Sb
open PySem PySem.Spec PyProof.Rows L2
/-! ### all sequences of what is left, counted -/
def permsV : Nat → List Nat → List (List Nat)
  | 0, _ => [[]]
  | k + 1, l => l.flatMap fun x => (permsV k (l.filter fun y => !decide (y = x))).map fun s => x :: s
theorem cut_filter : ∀ (l : List Nat) (i x : Nat), l.Nodup → l[i]? = some x → l.take i ++ l.drop (i + 1) = l.filter fun y => !decide (y = x)
  | [], _, _, _, h => by simp at h
  | y :: l, 0, x, nd, h => by
    simp at h
    subst h
    obtain ⟨h1, _⟩ := List.nodup_cons.mp nd
    have : l.filter (fun z => !decide (z = y)) = l := List.filter_eq_self.mpr fun z hz => by
      rw [Bool.not_eq_true', decide_eq_false_iff_not]
      exact fun e => h1 (e ▸ hz)
    rw [List.filter_cons, this]
    simp
  | y :: l, i + 1, x, nd, h => by
    obtain ⟨h1, h2⟩ := List.nodup_cons.mp nd
    have h' : l[i]? = some x := by simpa using h
    have ne : y ≠ x := fun e => h1 (e ▸ List.mem_of_getElem? h')
    rw [List.filter_cons, if_pos (by rw [Bool.not_eq_true', decide_eq_false_iff_not]; exact ne), ← cut_filter l i x h2 h']
    rfl
theorem filter_len {l : List Nat} {x k : Nat} (nd : l.Nodup) (hx : x ∈ l) (hl : l.length = k + 1) : (l.filter fun y => !decide (y = x)).length = k := by
  obtain ⟨i, h⟩ := List.getElem?_of_mem hx
  have hi := (List.getElem?_eq_some_iff.mp h).1
  rw [← cut_filter l i x nd h, List.length_append, List.length_take, List.length_drop]
  omega
theorem perms_mem : ∀ (k : Nat) (l w : List Nat), l.Nodup → l.length = k → w ∈ permsV k l → w.Nodup ∧ ∀ x, x ∈ w ↔ x ∈ l
  | 0, l, w, _, hl, h => by
    rw [List.mem_singleton.mp h, List.length_eq_zero_iff.mp hl]
    exact ⟨List.nodup_nil, fun _ => Iff.rfl⟩
  | k + 1, l, w, nd, hl, h => by
    obtain ⟨x, hx, h⟩ := List.mem_flatMap.mp h
    obtain ⟨s, hs, rfl⟩ := List.mem_map.mp h
    obtain ⟨h1, h2⟩ := perms_mem k _ s (nd.filter _) (filter_len nd hx hl) hs
    have h3 : ∀ y, y ∈ s ↔ y ∈ l ∧ y ≠ x := fun y => by
      rw [h2, List.mem_filter, Bool.not_eq_true', decide_eq_false_iff_not]
    refine ⟨List.nodup_cons.mpr ⟨fun z => ((h3 x).mp z).2 rfl, h1⟩, fun y => ?_⟩
    rw [List.mem_cons, h3]
    constructor
    · rintro (e | ⟨z, _⟩)
      · rw [e]
        exact hx
      · exact z
    · intro z
      by_cases e : y = x
      · exact .inl e
      · exact .inr ⟨z, e⟩
theorem perms_len : ∀ (k : Nat) (l w : List Nat), w ∈ permsV k l → w.length = k
  | 0, l, w, h => by
    rw [List.mem_singleton.mp h]
    rfl
  | k + 1, l, w, h => by
    obtain ⟨x, hx, h⟩ := List.mem_flatMap.mp h
    obtain ⟨s, hs, rfl⟩ := List.mem_map.mp h
    rw [List.length_cons, perms_len k _ s hs]
def factN : Nat → Nat
  | 0 => 1
  | k + 1 => (k + 1) * factN k
theorem perms_many : ∀ (k : Nat) (l : List Nat), l.Nodup → l.length = k → (permsV k l).length = factN k
  | 0, _, _, _ => rfl
  | k + 1, l, nd, hl => by
    have h : ∀ xs : List Nat, (∀ x ∈ xs, x ∈ l) → (xs.flatMap fun x => (permsV k (l.filter fun y => !decide (y = x))).map fun s => x :: s).length = xs.length * factN k := by
      intro xs
      induction xs with
      | nil => intro _; rw [List.flatMap_nil, List.length_nil, List.length_nil, Nat.zero_mul]
      | cons x xs ih =>
        intro hx
        rw [List.flatMap_cons, List.length_append, List.length_map, perms_many k _ (nd.filter _) (filter_len nd (hx x List.mem_cons_self) hl), ih fun y hy => hx y (List.mem_cons_of_mem _ hy), List.length_cons, Nat.succ_mul, Nat.add_comm]
    have := h l fun _ z => z
    rw [hl] at this
    exact this
section
variable (n : Nat) (rd : Nat → List Nat)
theorem sum_if {α : Type} (p : α → Bool) (f : α → Nat) : ∀ l : List α, (l.map fun x => if p x = true then f x else 0).sum = ((l.filter p).map f).sum
  | [] => rfl
  | x :: l => by
    rw [List.map_cons, List.sum_cons, sum_if p f l, List.filter_cons]
    cases q : p x with
    | true => rw [if_pos rfl, if_pos rfl, List.map_cons, List.sum_cons]
    | false => rw [if_neg (by decide), if_neg (by decide), Nat.zero_add]
theorem filter_flat {α β : Type} (p : β → Bool) (f : α → List β) : ∀ l : List α, ((l.flatMap f).filter p).length = (l.map fun x => ((f x).filter p).length).sum
  | [] => rfl
  | x :: l => by rw [List.flatMap_cons, List.filter_append, List.length_append, filter_flat p f l, List.map_cons, List.sum_cons]
def restV (S : List Nat) : List Nat := (List.range n).filter fun x => !decide (x ∈ S)
theorem rest_next (S : List Nat) (x : Nat) : (restV n S).filter (fun y => !decide (y = x)) = restV n (S ++ [x]) := by
  unfold restV
  rw [List.filter_filter]
  refine List.filter_congr fun y _ => ?_
  rw [Bool.eq_iff_iff, Bool.and_eq_true, Bool.not_eq_true', Bool.not_eq_true', Bool.not_eq_true', decide_eq_false_iff_not, decide_eq_false_iff_not, decide_eq_false_iff_not, List.mem_append, List.mem_singleton]
  exact ⟨fun ⟨a, b⟩ c => c.elim b a, fun h => ⟨fun z => h (.inr z), fun z => h (.inl z)⟩⟩
theorem free_rest (S : List Nat) : (restV n S).filter (frB rd S) = freeV n rd S := by
  unfold restV freeV
  rw [List.filter_filter]
  refine List.filter_congr fun y _ => ?_
  unfold frB
  cases decide (y ∈ S) <;> simp
theorem count_ord : ∀ (k : Nat) (S : List Nat), (∀ y ∈ S, y < n) → (restV n S).length = k → ((permsV k (restV n S)).filter (ordL rd S)).length = Wv n rd k (ascN S n)
  | 0, S, _, _ => rfl
  | k + 1, S, hS, hl => by
    have nd : (restV n S).Nodup := List.nodup_range.filter _
    have e : ∀ x ∈ restV n S, (((permsV k ((restV n S).filter fun y => !decide (y = x))).map fun s => x :: s).filter (ordL rd S)).length = if frB rd S x = true then Wv n rd k (ascN (S ++ [x]) n) else 0 := fun x hx => by
      have hx' : x < n := List.mem_range.mp (List.mem_filter.mp hx).1
      rw [List.filter_map, List.length_map]
      have c : (ordL rd S ∘ fun s => x :: s) = fun s => frB rd S x && ordL rd (S ++ [x]) s := rfl
      rw [c]
      cases q : frB rd S x with
      | false =>
        rw [if_neg (by decide)]
        refine List.length_eq_zero_iff.mpr (List.filter_eq_nil_iff.mpr fun s _ z => by simp at z)
      | true =>
        rw [if_pos rfl]
        have ih := count_ord k (S ++ [x]) (fun y hy => by
          rcases List.mem_append.mp hy with h | h
          · exact hS y h
          · rw [List.mem_singleton.mp h]
            exact hx') (by rw [← rest_next]; exact filter_len nd hx hl)
        rw [rest_next]
        exact ih
    show (((restV n S).flatMap fun x => (permsV k ((restV n S).filter fun y => !decide (y = x))).map fun s => x :: s).filter (ordL rd S)).length = ((freeV n rd (ascN S n)).map fun x => Wv n rd k (nxtV n (ascN S n) x)).sum
    rw [filter_flat, List.map_congr_left e, sum_if, free_rest, free_asc n rd hS]
    congr 1
    refine List.map_congr_left fun x _ => ?_
    rw [nxt_asc]
theorem count_all : ((permsV n (List.range n)).filter (ordL rd [])).length = (Vv n rd n).length := by
  have e : restV n [] = List.range n := by
    unfold restV
    exact List.filter_eq_self.mpr fun x _ => by simp
  have h := count_ord n rd n [] (fun y hy => by cases hy) (by rw [e, List.length_range])
  rw [e] at h
  rw [h, V_len, asc_nil]
/-! an order, by places -/
theorem idx_in : ∀ (S T : List Nat) (k : Nat), k ∈ S → (S ++ T).idxOf k < S.length
  | [], _, _, h => by cases h
  | x :: S, T, k, h => by
    rw [List.cons_append, List.idxOf_cons, List.length_cons]
    by_cases q : x = k
    · rw [beq_iff_eq.mpr q]
      exact Nat.succ_pos _
    · rw [beq_eq_false_iff_ne.mpr q]
      rcases List.mem_cons.mp h with z | z
      · exact absurd z.symm q
      · exact Nat.succ_lt_succ (idx_in S T k z)
theorem idx_out : ∀ (S T : List Nat) (k : Nat), k ∉ S → S.length ≤ (S ++ T).idxOf k
  | [], _, _, _ => Nat.zero_le _
  | x :: S, T, k, h => by
    rw [List.mem_cons, not_or] at h
    rw [List.cons_append, List.idxOf_cons, List.length_cons, beq_eq_false_iff_ne.mpr (fun e => h.1 e.symm)]
    exact Nat.succ_le_succ (idx_out S T k h.2)
theorem idx_at : ∀ (S T : List Nat) (k : Nat), k ∉ S → (S ++ k :: T).idxOf k = S.length
  | [], T, k, _ => by
    rw [List.nil_append, List.idxOf_cons, beq_self_eq_true]
    rfl
  | x :: S, T, k, h => by
    rw [List.mem_cons, not_or] at h
    rw [List.cons_append, List.idxOf_cons, List.length_cons, beq_eq_false_iff_ne.mpr (fun e => h.1 e.symm)]
    exact congrArg Nat.succ (idx_at S T k h.2)
def befB (w : List Nat) (x : Nat) : Bool := (rd x).all fun k => decide (w.idxOf k < w.idxOf x)
theorem ord_bef : ∀ (s S : List Nat), (S ++ s).Nodup → ordL rd S s = s.all (befB rd (S ++ s))
  | [], _, _ => rfl
  | x :: s, S, nd => by
    have e : S ++ x :: s = (S ++ [x]) ++ s := by rw [List.append_assoc]; rfl
    have hx : x ∉ S := fun z => by
      have := (List.nodup_append.mp nd).2.2 x z x List.mem_cons_self
      exact this rfl
    have ih := ord_bef s (S ++ [x]) (by rw [← e]; exact nd)
    show (frB rd S x && ordL rd (S ++ [x]) s) = _
    rw [List.all_cons, ih, ← e]
    congr 1
    unfold frB befB
    rw [decide_eq_false hx, Bool.not_false, Bool.true_and, Bool.eq_iff_iff, List.all_eq_true, List.all_eq_true, idx_at S s x hx]
    refine forall_congr' fun k => forall_congr' fun _ => ?_
    rw [decide_eq_true_eq, decide_eq_true_eq]
    constructor
    · exact idx_in S _ k
    · intro h
      apply Classical.byContradiction
      intro z
      have := idx_out S (x :: s) k z
      omega
theorem ord_perm {w : List Nat} (nd : w.Nodup) (hm : ∀ x, x ∈ w ↔ x < n) : ordL rd [] w = (List.range n).all (befB rd w) := by
  rw [ord_bef rd w [] (by rw [List.nil_append]; exact nd), List.nil_append, Bool.eq_iff_iff, List.all_eq_true, List.all_eq_true]
  refine forall_congr' fun x => ?_
  rw [hm, List.mem_range]
theorem idx_up {f : Nat → Int} (inj : ∀ a b, f a = f b → a = b) : ∀ (w : List Nat) (k : Nat), (w.map f).idxOf (f k) = w.idxOf k
  | [], _ => rfl
  | x :: w, k => by
    rw [List.map_cons, List.idxOf_cons, List.idxOf_cons, idx_up inj w k]
    by_cases q : x = k
    · rw [beq_iff_eq.mpr q, beq_iff_eq.mpr (congrArg f q)]
    · rw [beq_eq_false_iff_ne.mpr q, beq_eq_false_iff_ne.mpr fun e => q (inj _ _ e)]
end
theorem ord_plain {rd : Nat → List Nat} {n : Nat} (h : ∀ i, i < n → ∀ j ∈ rd i, j < i) : ∀ (m a : Nat), a + m = n → ordL rd (List.range a) (List.range' a m) = true
  | 0, _, _ => rfl
  | m + 1, a, e => by
    rw [List.range'_succ]
    show (frB rd (List.range a) a && ordL rd (List.range a ++ [a]) (List.range' (a + 1) m)) = true
    rw [← List.range_succ, ord_plain h m (a + 1) (by omega), Bool.and_true]
    unfold frB
    rw [Bool.and_eq_true, Bool.not_eq_true', decide_eq_false_iff_not, List.all_eq_true]
    refine ⟨fun z => Nat.lt_irrefl _ (List.mem_range.mp z), fun j hj => decide_eq_true (List.mem_range.mpr (h a (by omega) j hj))⟩
end Sb
namespace Sb
open PySem PySem.Spec PyProof.Rows L2
/-! ### _law_rows: all sequences of what is left behind a row -/
def rowS (w : List Nat) : Sv := if w = [] then .d (.tuple []) else .xt (w.map natD)
theorem rowS_ne {w : List Nat} (h : w ≠ []) : rowS w = .xt (w.map natD) := by
  unfold rowS
  rw [if_neg h]
def rwE (l w : List Nat) (x2 x3 : Option Sv) : Ev := [some (.d (.list (l.map natD))), some (rowS w), x2, x3]
theorem xtAt_row (l w : List Nat) (x2 x3 : Option Sv) : xtAt (rwE l w x2 x3) 1 = some (w.map natD) := by
  by_cases h : w = []
  · subst h
    rfl
  · unfold rwE
    rw [rowS_ne h]
    rfl
def rwB (self : FF) : FS := (sXExt 2 (fCall 2 self (faCons (fOp2 addL (fSl (fVar 0) oNone (oSome (fVar 3))) (fSl (fVar 0) (oSome (fOp2 addL (fVar 3) (fC (.int 1)))) oNone)) (faCons (fXCat 1 (fOp2 (seeB ixD) (fVar 0) (fVar 3))) faNil))))
theorem addL_cc {f g : FE} {e : Ev} {n : Nat} {xs ys : List PyData} (h1 : f e n = some (.cell xs, n)) (h2 : g e n = some (.cell ys, n)) (hl : xs.length + ys.length ≤ big) : fOp2 addL f g e n = some (.cell (xs ++ ys), n) := by
  have e2 : addL (.cell xs) (.cell ys) = some (.cell (xs ++ ys)) := by
    show (if xs.length + ys.length ≤ big then some (Sv.cell (xs ++ ys)) else none) = _
    rw [if_pos hl]
  simp only [fOp2, h1, h2, e2]
theorem rw_args (l w : List Nat) (x2 : Option Sv) {i x : Nat} (nd : l.Nodup) (hx : l[i]? = some x) (hl : l.length ≤ 1000) (hw : w.length ≤ 1000) (n : Nat) :
    (faCons (fOp2 addL (fSl (fVar 0) oNone (oSome (fVar 3))) (fSl (fVar 0) (oSome (fOp2 addL (fVar 3) (fC (.int 1)))) oNone)) (faCons (fXCat 1 (fOp2 (seeB ixD) (fVar 0) (fVar 3))) faNil)) (rwE l w x2 (some (.d (natD i)))) n
      = some ([.d (.list ((l.filter fun y => !decide (y = x)).map natD)), rowS (w ++ [x])], n) := by
  let e := rwE l w x2 (some (.d (natD i)))
  have hi := (List.getElem?_eq_some_iff.mp hx).1
  have s1 : fSl (fVar 0) oNone (oSome (fVar 3)) e n = some (.cell ((l.take i).map natD), n) := by
    have h : fSl (fVar 0) oNone (oSome (fVar 3)) e n = some (.cell (cutD (l.map natD) none (some (i : Int))), n) := rfl
    rw [h, cut_tkF, List.map_take]
  have s2 : fSl (fVar 0) (oSome (fOp2 addL (fVar 3) (fC (.int 1)))) oNone e n = some (.cell ((l.drop (i + 1)).map natD), n) := by
    have h : fSl (fVar 0) (oSome (fOp2 addL (fVar 3) (fC (.int 1)))) oNone e n = some (.cell (cutD (l.map natD) (some ((i + 1 : Nat) : Int)) none), n) := rfl
    rw [h, cut_drF, List.map_drop]
  have c := addL_cc s1 s2 (by
    rw [List.length_map, List.length_map, List.length_take, List.length_drop]
    show _ ≤ 100000
    omega)
  rw [← List.map_append, cut_filter l i x nd hx] at c
  have hix : fOp2 (seeB ixD) (fVar 0) (fVar 3) e n = some (.d (natD x), n) := ix_nat (s := .d (.list (l.map natD))) (d := .list (l.map natD)) (i := i) rfl rfl (.inr rfl) rfl (by rw [List.getElem?_map, hx]; rfl)
  have hr : fXCat 1 (fOp2 (seeB ixD) (fVar 0) (fVar 3)) e n = some (.xt ((w ++ [x]).map natD), n) := by
    unfold fXCat
    rw [xtAt_row, hix]
    dsimp only [Sv.take]
    rw [if_pos (by rw [List.length_map]; show _ < 100000; omega), List.map_append]
    rfl
  have fa := fa_c c (fa_c hr fa_n)
  rw [rowS_ne (by simp)]
  exact fa
theorem rw_step {self : FF} (l w : List Nat) (found rest : List (List PyData)) {i x : Nat} (nd : l.Nodup) (hx : l[i]? = some x) (hl : l.length ≤ 1000) (hw : w.length ≤ 1000) (n : Nat)
    (hs : self [.d (.list ((l.filter fun y => !decide (y = x)).map natD)), rowS (w ++ [x])] n = some (.xc rest, n)) (hb : found.length + rest.length ≤ big) :
    rwB self (rwE l w (some (.xc found)) (some (.d (natD i)))) n = some (.nx, rwE l w (some (.xc (found ++ rest))) (some (.d (natD i))), n) := by
  have c := call_ev (F := self) (np := 2) (rw_args l w (some (.xc found)) nd hx hl hw n) rfl hs
  unfold rwB sXExt
  rw [c]
  show (if found.length + rest.length ≤ big then some (Fl.nx, rwE l w (some (.xc (found ++ rest))) (some (.d (natD i))), n) else none) = _
  rw [if_pos hb]
theorem rw_loop {self : FF} (l w : List Nat) (g : Nat → List (List PyData)) (nd : l.Nodup) (hl : l.length ≤ 1000) (hw : w.length ≤ 1000) (n : Nat)
    (hs : ∀ x ∈ l, self [.d (.list ((l.filter fun y => !decide (y = x)).map natD)), rowS (w ++ [x])] n = some (.xc (g x), n)) : ∀ (post pre : List Nat) (found : List (List PyData)), l = pre ++ post → found.length + (post.flatMap g).length ≤ big →
    forL (tgN 3) [3] (rwB self) ((List.range' pre.length post.length).map natD) (rwE l w (some (.xc found)) none) n = some (.nx, rwE l w (some (.xc (found ++ post.flatMap g))) none, n)
  | [], pre, found, _, _ => by
    rw [List.flatMap_nil, List.append_nil]
    rfl
  | x :: post, pre, found, e, hb => by
    rw [List.flatMap_cons, List.length_append] at hb
    have hx : l[pre.length]? = some x := by
      rw [e, List.getElem?_append_right (Nat.le_refl _), Nat.sub_self]
      rfl
    have st := rw_step l w found (g x) nd hx hl hw n (hs x (List.mem_of_getElem? hx)) (by omega)
    have ih := rw_loop l w g nd hl hw n hs post (pre ++ [x]) (found ++ g x) (by rw [e, List.append_assoc]; rfl) (by rw [List.length_append]; omega)
    rw [List.length_append, List.length_singleton, List.append_assoc, ← List.flatMap_cons] at ih
    rw [List.length_cons, List.range'_succ, List.map_cons]
    exact forL_c (e1 := rwE l w (some (.xc found)) (some (.d (natD pre.length)))) rfl st rfl ih
theorem fact_le : ∀ k, k ≤ 5 → factN k ≤ 1000 := by decide
theorem m_rowsN : ∀ (k j : Nat) (l w : List Nat), l.Nodup → l.length = k → k ≤ 5 → k < j → w.length + k ≤ 100 → (k = 0 → w ≠ []) → ∀ n : Nat,
    F_rowsN j [.d (.list (l.map natD)), rowS w] n = some (.xc ((permsV k l).map fun s => (w ++ s).map natD), n)
  | _, 0, _, _, _, _, _, hj, _, _, _ => by omega
  | 0, j + 1, l, w, nd, hl, _, _, hw, h0, n => by
    have el := List.length_eq_zero_iff.mp hl
    subst el
    have h0 := h0 rfl
    refine run_g rfl ?_
    have t : bT (fOp2 (seeB (eqD false)) (fVar 0) (fLst faNil)) (rwE [] w none none) n = some (true, n) := rfl
    have r : sRet (fXOne 1) (rwE [] w none none) n = some (.rt (.xc [w.map natD]), rwE [] w none none, n) := by
      have e1 : rwE [] w none none = [some (.d (.list [])), some (.xt (w.map natD)), none, none] := by
        unfold rwE
        rw [rowS_ne h0]
        rfl
      rw [e1]
      rfl
    have g : ((permsV 0 []).map fun s => (w ++ s).map natD) = [w.map natD] := by
      show [(w ++ []).map natD] = _
      rw [List.append_nil]
    rw [g]
    exact ⟨rwE [] w none none, seq_rtQ ((if_st t).trans r)⟩
  | k + 1, j + 1, l, w, nd, hl, hk, hj, hw, _, n => by
    have hs : ∀ x ∈ l, F_rowsN j [.d (.list ((l.filter fun y => !decide (y = x)).map natD)), rowS (w ++ [x])] n = some (.xc ((permsV k (l.filter fun y => !decide (y = x))).map fun s => ((w ++ [x]) ++ s).map natD), n) := fun x hx =>
      m_rowsN k j _ (w ++ [x]) (nd.filter _) (filter_len nd hx hl) (by omega) (by omega) (by rw [List.length_append, List.length_singleton]; omega) (fun _ => by simp) n
    have tot : (l.flatMap fun x => (permsV k (l.filter fun y => !decide (y = x))).map fun s => ((w ++ [x]) ++ s).map natD) = (permsV (k + 1) l).map fun s => (w ++ s).map natD := by
      show _ = (l.flatMap fun x => (permsV k (l.filter fun y => !decide (y = x))).map fun s => x :: s).map fun s => (w ++ s).map natD
      rw [List.map_flatMap]
      congr 1
      funext x
      rw [List.map_map]
      congr 1
      funext s
      show _ = (w ++ x :: s).map natD
      rw [List.append_assoc]
      rfl
    have many : ((permsV (k + 1) l).map fun s => (w ++ s).map natD).length ≤ 1000 := by
      rw [List.length_map, perms_many (k + 1) l nd hl]
      exact fact_le _ hk
    have lp := rw_loop (self := F_rowsN j) l w (fun x => (permsV k (l.filter fun y => !decide (y = x))).map fun s => ((w ++ [x]) ++ s).map natD) nd (by omega) (by omega) n hs l [] [] rfl (by rw [tot, List.length_nil, Nat.zero_add]; exact Nat.le_trans many (by decide))
    rw [tot, List.nil_append] at lp
    have t : bT (fOp2 (seeB (eqD false)) (fVar 0) (fLst faNil)) (rwE l w none none) n = some (false, n) := by
      have := cmp_see (g := eqD false) (fa := fVar 0) (fb := fLst faNil) (e := rwE l w none none) (n := n) (n1 := n) (n2 := n) (sa := .d (.list (l.map natD))) (sb := .cell []) rfl rfl rfl rfl (eq_nil false (shaped_nats l))
      rw [Bool.bne_false] at this
      cases l with
      | nil => cases hl
      | cons y l => exact bt this
    have hlen : lenS (faCons (fVar 0) faNil) (rwE l w (some (.xc [])) none) n = some (.d (.int (l.length : Int)), n) := by
      have h := len_ev (f := fVar 0) (e := rwE l w (some (.xc [])) none) (n := n) (n1 := n) (x := .list (l.map natD)) (r := .d (.int ((l.map natD).length : Int))) rfl rfl
      rw [List.length_map] at h
      exact h
    have it := rng_ev' (e := rwE l w (some (.xc [])) none) hlen (by omega : l.length ≤ 1000)
    rw [List.range_eq_range'] at it
    refine run_g rfl (g_no t (g_set (sv := .xc []) (n1 := n) rfl rfl (g_runS (e1 := rwE l w (some (.xc ((permsV (k + 1) l).map fun s => (w ++ s).map natD))) none) (n2 := n) it (len_big (by rw [List.length_map, List.length_range']; omega)) lp ?_)))
    exact ⟨rwE l w (some (.xc ((permsV (k + 1) l).map fun s => (w ++ s).map natD))) none, rfl⟩
theorem m_rows (k : Nat) (l : List Nat) (nd : l.Nodup) (hl : l.length = k) (h1 : 1 ≤ k) (h5 : k ≤ 5) (n : Nat) : F_rows [.d (.list (l.map natD)), .d (.tuple [])] n = some (.xc ((permsV k l).map fun s => s.map natD), n) := by
  have h := m_rowsN k 8 l [] nd hl h5 (by omega) (by rw [List.length_nil]; omega) (by omega) n
  have e : ((permsV k l).map fun s => ([] ++ s).map natD) = (permsV k l).map fun s => s.map natD := rfl
  rw [e] at h
  exact h
end Sb
namespace Sb
open PySem PySem.Spec PyProof.Rows L2
/-! ### k43: orders of steps -/
section
variable {R : Rc}
theorem g_st43 {s rest : FS} {e e1 : Ev} {n n1 v n'} (h : s e n = some (.nx, e1, n1)) (k : Gives rest e1 n1 v n') : Gives (sSeq s rest) e n v n' := by
  obtain ⟨e', k⟩ := k
  exact ⟨e', seq_q h k⟩
theorem rd_less43 (hR : R.Ok) : ∀ i, i < R.ss.length → ∀ j ∈ rdR R i, j < i := fun i hi j hj => by
  have hs : R.ss[i]? = some (R.ss.getD i ("", [])) := getD_get hi
  have ho := (hR.st i _ hs).2
  unfold rdR rdS at hj
  obtain ⟨q, hq, e⟩ := List.mem_map.mp hj
  obtain ⟨q1, q2⟩ := List.mem_filter.mp hq
  rcases ho q q1 with ⟨h1, _⟩ | ⟨_, h2⟩
  · rw [h1] at q2
    exact absurd (of_decide_eq_true q2) (by decide +kernel)
  · exact e ▸ h2
theorem len_io (R : Rc) (d : PyData) (n : Nat) : lenS (faCons (fOp2 (seeB ixD) (fVar 0) (fC (.int 1))) faNil) (argsE 4 2 [.d R.enc, .d d]) n = some (.d (natD R.ss.length), n) := by
  have : (R.ss.map encS).length = R.ss.length := List.length_map _
  show some (Sv.d (.int (((R.ss.map encS).length : Nat) : Int)), n) = _
  rw [this]
  rfl
theorem order_of (hR : R.Ok) (xs : List PyData) (hl : xs.length = R.ss.length) (b : Bool) (n : Nat) (hy : xs.all (fun d => numD d 0 ((R.ss.length : Int) - 1)) = true → F_is_order_of [.d R.enc, .d (.tuple xs)] n = some (.d (.bool b), n))
    (hn : xs.all (fun d => numD d 0 ((R.ss.length : Int) - 1)) = false → b = false) : F_is_order [.d R.enc, .d (.tuple xs)] n = some (.d (.bool b), n) := by
  have s8 := hR.s8
  refine run_g rfl (g_drop (call_ev (as := [.d R.enc]) rfl rfl (m_check_recipe hR.rd hR.sm n)) (g_set (sv := .d (natD R.ss.length)) (n1 := n) (len_io R _ n) rfl ?_))
  refine g_tup (d := .tuple xs) (lo := (R.ss.length : Int)) (hi := (R.ss.length : Int)) rfl (fun ht => ?_) (fun ds e1 _ _ => ?_)
  · rw [tup_yes (by omega) (by omega)] at ht
    cases ht
  · cases e1
    refine g_all (p := fun d => numD d 0 ((R.ss.length : Int) - 1)) (xs := xs) rfl rfl (by rw [hl]; show _ ≤ 100000; omega) (fun x hx => notb (call_ev (as := [.d x, .d (.int 0), .d (.int ((R.ss.length : Int) - 1))]) rfl rfl (m_is_number x 0 _ n))) (fun ha => g_ret (call_ev (as := [.d R.enc, .d (.tuple xs)]) rfl rfl (hy ha))) (fun ha => ⟨by rw [hn ha], rfl⟩)
theorem order_bad (hR : R.Ok) (d : PyData) (h : tupD d (R.ss.length : Int) (R.ss.length : Int) = false) (n : Nat) : F_is_order [.d R.enc, .d d] n = some (.d (.bool false), n) := by
  refine run_g rfl (g_drop (call_ev (as := [.d R.enc]) rfl rfl (m_check_recipe hR.rd hR.sm n)) (g_set (sv := .d (natD R.ss.length)) (n1 := n) (len_io R _ n) rfl ?_))
  refine g_tup (d := d) (lo := (R.ss.length : Int)) (hi := (R.ss.length : Int)) rfl (fun ht => ⟨rfl, rfl⟩) (fun ds e1 h1 h2 => ?_)
  subst e1
  rw [tup_yes h1 h2] at h
  cases h
theorem order_row (hR : R.Ok) {w : List Nat} (hl : w.length = R.ss.length) (hw : ∀ x ∈ w, x < R.ss.length) (n : Nat) : F_is_order [.d R.enc, .d (wD w)] n = some (.d (.bool (ordL (rdR R) [] w)), n) := by
  have s8 := hR.s8
  refine order_of hR (w.map natD) (by rw [List.length_map]; exact hl) _ n (fun _ => m_is_order_of hR w (by omega) hw n) fun h => ?_
  have : (w.map natD).all (fun d => numD d 0 ((R.ss.length : Int) - 1)) = true := by
    rw [List.all_eq_true]
    intro d hd
    obtain ⟨x, hx, rfl⟩ := List.mem_map.mp hd
    have := hw x hx
    exact num_in (by omega) (by omega)
  rw [this] at h
  cases h
/-! what the law finds of a row -/
def rdB (w : List Nat) (k : Nat) (r : Rd) : Bool := decide (r.1 = ("thing" : Str)) || decide (w.idxOf r.2 < w.idxOf k)
def dueL (w : List Nat) : Nat → List Stp → Bool
  | _, [] => true
  | k, s :: ss => s.2.all (rdB w k) && dueL w (k + 1) ss
theorem due_rng (w : List Nat) (rs : List Stp) : ∀ (ss pre : List Stp), rs = pre ++ ss → dueL w pre.length ss = (List.range' pre.length ss.length).all fun i => (rs.getD i ("", [])).2.all (rdB w i)
  | [], _, _ => rfl
  | s :: ss, pre, e => by
    have ih := due_rng w rs ss (pre ++ [s]) (by rw [e, List.append_assoc]; rfl)
    rw [List.length_append, List.length_singleton] at ih
    have g : rs.getD pre.length ("", []) = s := by
      rw [e, List.getD_eq_getElem?_getD, List.getElem?_append_right (Nat.le_refl _), Nat.sub_self]
      rfl
    show (s.2.all (rdB w pre.length) && dueL w (pre.length + 1) ss) = _
    rw [ih, List.length_cons, List.range'_succ, List.all_cons, g]
theorem rd_all (hR : R.Ok) (w : List Nat) {i : Nat} (hi : i < R.ss.length) : (R.ss.getD i ("", [])).2.all (rdB w i) = befB (rdR R) w i := by
  have hs : R.ss[i]? = some (R.ss.getD i ("", [])) := getD_get hi
  have ho := (hR.st i _ hs).2
  unfold befB rdR rdS
  rw [List.all_map, List.all_filter, Bool.eq_iff_iff, List.all_eq_true, List.all_eq_true]
  refine forall_congr' fun r => forall_congr' fun hr => ?_
  unfold rdB
  rcases ho r hr with ⟨h1, _⟩ | ⟨h1, _⟩
  · rw [decide_eq_true h1, h1]
    have : decide (("thing" : Str) = "step") = false := by decide +kernel
    rw [this]
    simp
  · have e1 : decide (r.1 = ("thing" : Str)) = false := by
      rw [h1]
      decide +kernel
    rw [e1, decide_eq_true h1]
    simp
theorem due_ord (hR : R.Ok) {w : List Nat} (nd : w.Nodup) (hm : ∀ x, x ∈ w ↔ x < R.ss.length) : dueL w 0 R.ss = ordL (rdR R) [] w := by
  have h := due_rng w R.ss R.ss [] rfl
  rw [List.length_nil, ← List.range_eq_range'] at h
  rw [h, ord_perm R.ss.length (rdR R) nd hm, Bool.eq_iff_iff, List.all_eq_true, List.all_eq_true]
  refine forall_congr' fun i => forall_congr' fun hi => ?_
  rw [rd_all hR w (List.mem_range.mp hi)]
def E43 (x0 : Option Sv) (R : Rc) (g : Nat) (w : List Nat) (b : Bool) (x7 x8 x9 x10 : Option Sv) : Ev :=
  [x0, some .st, some (.d R.enc), some (.d (.tuple (R.ss.map encS))), some (.d (natD g)), some (.xt (w.map natD)), some (.d (.bool b)), x7, x8, x9, x10, none, none]
theorem ints_w : ∀ w : List Nat, intsX (w.map natD) = some (w.map fun (i : Nat) => (i : Int))
  | [] => rfl
  | i :: w => by
    rw [List.map_cons, List.map_cons]
    show (match intsX (w.map natD) with
      | some l => some ((i : Int) :: l)
      | none => none) = _
    rw [ints_w w]
theorem ix_w (x0 : Option Sv) (g : Nat) {w : List Nat} (b : Bool) (x7 x8 x9 x10 : Option Sv) {f : FE} {k : Nat} (n : Nat) (h : f (E43 x0 R g w b x7 x8 x9 x10) n = some (.d (natD k), n)) (hk : k ∈ w) : fXIx 5 f (E43 x0 R g w b x7 x8 x9 x10) n = some (.d (natD (w.idxOf k)), n) := by
  unfold fXIx
  rw [h]
  show (match intsX (w.map natD) with
    | some ns => if (k : Int) ∈ ns then some (Sv.d (.int (ns.idxOf (k : Int) : Nat)), n) else none
    | none => none) = _
  rw [ints_w]
  dsimp only
  rw [if_pos (List.mem_map.mpr ⟨k, hk, rfl⟩), idx_up (f := fun (i : Nat) => (i : Int)) (fun a b h => by omega)]
  rfl
def inB43 : FS := (sAsg 6 (fAnd (fVar 6) (fOr (fOp2 (seeB (eqD false)) (fVar 9) (fC (.str "thing"))) (fOp2 (seeB (ordD .Lt)) (fXIx 5 (fVar 10)) (fXIx 5 (fVar 7))))))
def outB43 : FS := (sFor (itTake (fOp2 (seeB ixD) (fVar 8) (fC (.int 1)))) (tgT [(tgN 9), (tgN 10)]) [9, 10] inB43)
theorem in_loop43 (x0 : Option Sv) (R : Rc) (g : Nat) (w : List Nat) {k : Nat} (hk : k ∈ w) (x8 : Option Sv) (n : Nat) : ∀ (rs : List Rd) (b : Bool), (∀ r ∈ rs, r.1 = ("thing" : Str) ∨ r.2 ∈ w) →
    forL (tgT [(tgN 9), (tgN 10)]) [9, 10] inB43 (rs.map encR) (E43 x0 R g w b (some (.d (natD k))) x8 none none) n = some (.nx, E43 x0 R g w (b && rs.all (rdB w k)) (some (.d (natD k))) x8 none none, n)
  | [], b, _ => by
    rw [List.all_nil, Bool.and_true]
    rfl
  | r :: rs, b, h => by
    have ih := in_loop43 x0 R g w hk x8 n rs (b && rdB w k r) fun y hy => h y (List.mem_cons_of_mem _ hy)
    rw [List.map_cons, List.all_cons, ← Bool.and_assoc]
    let e1 := E43 x0 R g w b (some (.d (natD k))) x8 (some (.d (.str r.1))) (some (.d (natD r.2)))
    have t : fOp2 (seeB (eqD false)) (fVar 9) (fC (.str "thing")) e1 n = some (.d (.bool (decide (r.1 = ("thing" : Str)))), n) := cmp_ev (a := .str r.1) (b := .str "thing") rfl rfl (by
      show some (PyData.bool (decide (r.1 = ("thing" : Str)) != false)) = _
      rw [Bool.bne_false])
    have o : fOr (fOp2 (seeB (eqD false)) (fVar 9) (fC (.str "thing"))) (fOp2 (seeB (ordD .Lt)) (fXIx 5 (fVar 10)) (fXIx 5 (fVar 7))) e1 n = some (.d (.bool (rdB w k r)), n) := by
      refine (or_ev t).trans ?_
      unfold rdB
      by_cases q : r.1 = ("thing" : Str)
      · rw [decide_eq_true q]
        rfl
      · rw [decide_eq_false q]
        have hr := (h r List.mem_cons_self).resolve_left q
        have i1 := ix_w (R := R) x0 g (w := w) b (some (.d (natD k))) x8 (some (.d (.str r.1))) (some (.d (natD r.2))) (f := fVar 10) n rfl hr
        have i2 := ix_w (R := R) x0 g (w := w) b (some (.d (natD k))) x8 (some (.d (.str r.1))) (some (.d (natD r.2))) (f := fVar 7) n rfl hk
        have c := cmp_ev (g := ordD .Lt) i1 i2 (ordLt_int _ _)
        have e : decide (((w.idxOf r.2 : Nat) : Int) < ((w.idxOf k : Nat) : Int)) = decide (w.idxOf r.2 < w.idxOf k) := decide_eq_decide.mpr ⟨fun h => by omega, fun h => by omega⟩
        rw [e] at c
        rw [if_neg (by decide), Bool.false_or]
        exact c
    have v : fAnd (fVar 6) (fOr (fOp2 (seeB (eqD false)) (fVar 9) (fC (.str "thing"))) (fOp2 (seeB (ordD .Lt)) (fXIx 5 (fVar 10)) (fXIx 5 (fVar 7)))) e1 n = some (.d (.bool (b && rdB w k r)), n) := by
      refine (and_ev (b := b) rfl).trans ?_
      cases b with
      | true => exact o
      | false => rfl
    exact forL_c (e1 := e1) rfl (setV v rfl) rfl ih
theorem out_loop43 (x0 : Option Sv) (R : Rc) (g : Nat) (w : List Nat) (m : Nat) (n : Nat) : ∀ (ss : List Stp) (k : Nat) (b : Bool), (∀ (j : Nat) (s : Stp), ss[j]? = some s → okSt m (k + j) s) → (∀ i, i < k + ss.length → i ∈ w) → (∀ s ∈ ss, s.2.length ≤ 100) →
    forL (tgT [(tgN 7), (tgN 8)]) [7, 8, 9, 10] outB43 (pairsD k (ss.map encS)) (E43 x0 R g w b none none none none) n = some (.nx, E43 x0 R g w (b && dueL w k ss) none none none none, n)
  | [], k, b, _, _, _ => by
    show _ = some (Fl.nx, E43 x0 R g w (b && true) none none none none, n)
    rw [Bool.and_true]
    rfl
  | s :: ss, k, b, hs, hw, hl => by
    rw [List.length_cons] at hw
    have ih := out_loop43 x0 R g w m n ss (k + 1) (b && s.2.all (rdB w k)) (fun j t ht => by
      have := hs (j + 1) t (by simpa using ht)
      rw [show k + 1 + j = k + (j + 1) by omega]
      exact this) (fun i hi => hw i (by omega)) fun t ht => hl t (List.mem_cons_of_mem _ ht)
    have hk : k ∈ w := hw k (by omega)
    have ok := (hs 0 s rfl).2
    let e1 := E43 x0 R g w b (some (.d (natD k))) (some (.d (encS s))) none none
    have lp := in_loop43 x0 R g w hk (some (.d (encS s))) n s.2 b fun r hr => by
      rcases ok r hr with ⟨h1, _⟩ | ⟨_, h2⟩
      · exact .inl h1
      · exact .inr (hw r.2 (by omega))
    have it : itTake (fOp2 (seeB ixD) (fVar 8) (fC (.int 1))) e1 n = some (s.2.map encR, n) := rfl
    have st : outB43 e1 n = some (.nx, E43 x0 R g w (b && s.2.all (rdB w k)) (some (.d (natD k))) (some (.d (encS s))) none none, n) := for_q it (len_big (by rw [List.length_map]; have := hl s List.mem_cons_self; omega)) lp
    show forL _ _ _ (.tuple [.int (k : Int), encS s] :: pairsD (k + 1) (ss.map encS)) _ n = some (Fl.nx, E43 x0 R g w (b && (s.2.all (rdB w k) && dueL w (k + 1) ss)) none none none none, n)
    rw [← Bool.and_assoc]
    exact forL_c (e1 := e1) rfl st rfl ih
def rowB43 : FS := (sSeq (sAsg 6 (fC (.bool true)))
    (sSeq (sFrz [3] (sFor (itEnum (faCons (fVar 3) faNil)) (tgT [(tgN 7), (tgN 8)]) [7, 8, 9, 10] outB43))
    (sSeq (sIf (tNotF (bT (fCall 2 F_same_truth (faCons (fCall 2 F_is_order (faCons (fVar 2) (faCons (fXD 5) faNil))) (faCons (fVar 6) faNil)))))
    (sRet (fC (.bool false)))
    sNx)
    (sAug 4 (fIf (bT (fVar 6)) (fC (.int 1)) (fC (.int 0)))))))
def Q43 (x0 : Option Sv) (R : Rc) (g : Nat) (x5 : Option Sv) : Ev := [x0, some .st, some (.d R.enc), some (.d (.tuple (R.ss.map encS))), some (.d (natD g)), x5, none, none, none, none, none, none, none]
theorem m_same_truth43 (a b : Bool) (n : Nat) : F_same_truth [.d (.bool a), .d (.bool b)] n = some (.d (.bool (decide (a = b))), n) := by
  have h : fOp2 (seeB (eqD false)) (fVar 0) (fVar 1) [some (.d (.bool a)), some (.d (.bool b))] n = some (.d (.bool (decide (a = b))), n) := cmp_ev (a := .bool a) (b := .bool b) rfl rfl (by
    show some (PyData.bool (decide (a = b) != false)) = _
    rw [Bool.bne_false])
  refine run_g rfl (g_ret ?_)
  exact (and_ev (f := fIsi isBool (fVar 0)) (b := true) rfl).trans h
theorem aug43 (x0 : Option Sv) (R : Rc) (g : Nat) (w : List Nat) (b : Bool) (n : Nat) : sAug 4 (fIf (bT (fVar 6)) (fC (.int 1)) (fC (.int 0))) (E43 x0 R g w b none none none none) n = some (.nx, E43 x0 R (g + if b = true then 1 else 0) w b none none none none, n) := by
  cases b <;> rfl
theorem row_step43 (hR : R.Ok) (x0 : Option Sv) (g : Nat) {w : List Nat} (nd : w.Nodup) (hm : ∀ x, x ∈ w ↔ x < R.ss.length) (hl : w.length = R.ss.length) (n : Nat) :
    rowB43 (Q43 x0 R g (some (.xt (w.map natD)))) n = some (.nx, E43 x0 R (g + if ordL (rdR R) [] w = true then 1 else 0) w (ordL (rdR R) [] w) none none none none, n) := by
  have s8 := hR.s8
  refine seq_q (e1 := E43 x0 R g w true none none none none) (n1 := n) rfl ?_
  have it : itEnum (faCons (fVar 3) faNil) (E43 x0 R g w true none none none none) n = some (pairsD 0 (R.ss.map encS), n) := rfl
  have lp := out_loop43 x0 R g w R.ts.length n R.ss 0 true (fun j s h => by rw [Nat.zero_add]; exact hR.st j s h) (fun i hi => (hm i).mpr (by omega)) fun s hs => by
    have := rd_len hR hs
    omega
  rw [Bool.true_and, due_ord hR nd hm] at lp
  refine seq_q (e1 := E43 x0 R g w (ordL (rdR R) [] w) none none none none) (n1 := n) (for_q (e := E43 x0 R g w true none none none none) it (len_big (by rw [pairsD_len, List.length_map]; omega)) lp) ?_
  let e2 := E43 x0 R g w (ordL (rdR R) [] w) none none none none
  have c := call_ev (F := F_is_order) (np := 2) (fa := faCons (fVar 2) (faCons (fXD 5) faNil)) (e := e2) (n := n) (as := [.d R.enc, .d (wD w)]) rfl rfl (order_row hR hl (fun x hx => (hm x).mp hx) n)
  have st := notb (call_ev (F := F_same_truth) (np := 2) (fa_c c (fa_c (f := fVar 6) (a := .d (.bool (ordL (rdR R) [] w))) rfl fa_n)) rfl (m_same_truth43 _ _ n))
  rw [decide_eq_true rfl] at st
  refine seq_q (e1 := e2) (n1 := n) ((if_st st).trans rfl) ?_
  exact aug43 x0 R g w _ n
theorem rows_loop43 (hR : R.Ok) (x0 : Option Sv) (n : Nat) : ∀ (ws : List (List Nat)) (g : Nat), (∀ w ∈ ws, w.Nodup ∧ (∀ x, x ∈ w ↔ x < R.ss.length) ∧ w.length = R.ss.length) →
    forXL 5 [5, 6, 7, 8, 9, 10] rowB43 (ws.map fun s => s.map natD) (Q43 x0 R g none) n = some (.nx, Q43 x0 R (g + (ws.filter (ordL (rdR R) [])).length) none, n)
  | [], g, _ => rfl
  | w :: ws, g, h => by
    obtain ⟨h1, h2, h3⟩ := h w List.mem_cons_self
    have ih := rows_loop43 hR x0 n ws (g + if ordL (rdR R) [] w = true then 1 else 0) fun v hv => h v (List.mem_cons_of_mem _ hv)
    have st := row_step43 hR x0 g h1 h2 h3 n
    have e : (Q43 x0 R g none).set 5 (some (.xt (w.map natD))) = Q43 x0 R g (some (.xt (w.map natD))) := rfl
    have wp : wipeE (E43 x0 R (g + if ordL (rdR R) [] w = true then 1 else 0) w (ordL (rdR R) [] w) none none none none) [5, 6, 7, 8, 9, 10] = Q43 x0 R (g + if ordL (rdR R) [] w = true then 1 else 0) none := rfl
    rw [List.map_cons]
    unfold forXL
    rw [e, st]
    dsimp only
    rw [wp, ih, List.filter_cons]
    cases q : ordL (rdR R) [] w with
    | true =>
      rw [if_pos rfl, if_pos rfl, List.length_cons, show g + 1 + (ws.filter (ordL (rdR R) [])).length = g + ((ws.filter (ordL (rdR R) [])).length + 1) by omega]
    | false =>
      rw [if_neg (by decide), if_neg (by decide), Nat.add_zero]
/-! what is no order -/
def P43 (N : Nat) : List PyData := (List.range N).map natD
def bad43 (N : Nat) : List PyData := [.list (P43 N), .tuple (cutD (P43 N) none (some (-1))), .tuple (P43 N ++ [.int 0]), .none, .tuple ([.int (-1)] ++ cutD (P43 N) (some 1) none), .tuple (cutD (P43 N) none (some (-1)) ++ [natD N]), .tuple (List.replicate N [PyData.bool true]).flatten]
def noB (N : Nat) (d : PyData) : Bool := !tupD d (N : Int) (N : Int) || (match d with
  | .tuple xs => decide (xs.length = N) && !(xs.all fun d => numD d 0 ((N : Int) - 1))
  | _ => false)
theorem bad_all : ∀ N, 1 ≤ N → N ≤ 5 → (bad43 N).all (noB N) = true
  | 0, h, _ => by omega
  | 1, _, _ => by kernel_rfl
  | 2, _, _ => by kernel_rfl
  | 3, _, _ => by kernel_rfl
  | 4, _, _ => by kernel_rfl
  | 5, _, _ => by kernel_rfl
  | _ + 6, _, h => by omega
theorem bad_no (hR : R.Ok) {d : PyData} (h : noB R.ss.length d = true) (n : Nat) : F_is_order [.d R.enc, .d d] n = some (.d (.bool false), n) := by
  unfold noB at h
  rw [Bool.or_eq_true, Bool.not_eq_true'] at h
  rcases h with h | h
  · exact order_bad hR d h n
  · split at h
    · rename_i xs
      rw [Bool.and_eq_true, decide_eq_true_eq, Bool.not_eq_true'] at h
      exact order_of hR xs h.1 false n (fun z => by rw [h.2] at z; cases z) fun _ => rfl
    · cases h
theorem cut_small : ∀ N, 1 ≤ N → N ≤ 5 → (cutD (P43 N) none (some (-1))).length ≤ 5 ∧ (cutD (P43 N) (some 1) none).length ≤ 5
  | 0, h, _ => by omega
  | 1, _, _ => by decide +kernel
  | 2, _, _ => by decide +kernel
  | 3, _, _ => by decide +kernel
  | 4, _, _ => by decide +kernel
  | 5, _, _ => by decide +kernel
  | _ + 6, _, h => by omega
def T43 (x0 : Option Sv) (R : Rc) (g : Nat) (x10 x11 x12 : Option Sv) : Ev := [x0, some .st, some (.d R.enc), some (.d (.tuple (R.ss.map encS))), some (.d (natD g)), none, none, none, none, none, x10, x11, x12]
theorem len43 (x0 : Option Sv) (R : Rc) (g : Nat) (x10 x11 x12 : Option Sv) (n : Nat) : lenS (faCons (fVar 3) faNil) (T43 x0 R g x10 x11 x12) n = some (.d (natD R.ss.length), n) := by
  have : (R.ss.map encS).length = R.ss.length := List.length_map _
  show some (Sv.d (.int (((R.ss.map encS).length : Nat) : Int)), n) = _
  rw [this]
  rfl
end
theorem law_true (ns : List Int) (hn : ns.length ≤ 63) : ∃ e' n', b_law (lawE ns) 0 = some (.rt (.d (.bool true)), e', n') := by
  obtain ⟨r, n1, ts, ss, ms, q1, l1, l2, h⟩ := m_some_recipe ns hn 0 (by omega)
  obtain ⟨R, er, hR, ets, ess, ems⟩ := h.plain
  subst er
  have s1 := hR.s1
  have s5 : R.ss.length ≤ 5 := by
    have := h.s5
    rw [ess, List.length_map] at this
    exact this
  let x0 : Option Sv := some (.d (scriptD ns))
  suffices hg : Gives b_law (lawE ns) 0 (.d (.bool true)) n1 by
    obtain ⟨e', hg⟩ := hg
    exact ⟨e', _, hg⟩
  refine g_set (sv := .d R.enc) (n1 := n1) (call_ev (as := [.d (scriptD ns), .st]) rfl rfl q1) rfl ?_
  refine g_st43 (e1 := T43 x0 R 0 none none none) (n1 := n1) rfl ?_
  let N := R.ss.length
  have nd : (List.range N).Nodup := List.nodup_range
  have hN : (List.range N).length = N := List.length_range
  have fl : fListRg (lenS (faCons (fVar 3) faNil)) (T43 x0 R 0 none none none) n1 = some (.cell ((List.range N).map natD), n1) := by
    unfold fListRg
    rw [len43]
    show (if 0 ≤ ((N : Nat) : Int) ∧ ((N : Nat) : Int) ≤ (big : Int) then some (Sv.cell (intsUp 0 ((N : Nat) : Int).toNat), n1) else none) = _
    rw [if_pos (by have : (big : Int) = 100000 := rfl; omega), ups_eq]
    rfl
  have cr := call_ev (F := F_rows) (np := 2) (fa_c fl (fa_c (f := fTup faNil) (a := .d (.tuple [])) rfl fa_n)) rfl (m_rows N (List.range N) nd hN s1 s5 n1)
  have pm : ∀ w ∈ permsV N (List.range N), w.Nodup ∧ (∀ x, x ∈ w ↔ x < N) ∧ w.length = N := fun w hw => by
    obtain ⟨a, b⟩ := perms_mem N (List.range N) w nd hN hw
    exact ⟨a, fun x => (b x).trans List.mem_range, perms_len N _ w hw⟩
  have many : (permsV N (List.range N)).length ≤ 1000 := by
    rw [perms_many N _ nd hN]
    exact fact_le _ s5
  have lp := rows_loop43 hR x0 n1 (permsV N (List.range N)) 0 pm
  rw [Nat.zero_add, count_all] at lp
  have fx : sForX 5 [5, 6, 7, 8, 9, 10] (fCall 2 F_rows (faCons (fListRg (lenS (faCons (fVar 3) faNil))) (faCons (fTup faNil) faNil))) rowB43 (T43 x0 R 0 none none none) n1 = some (.nx, T43 x0 R (Vv N (rdR R) N).length none none none, n1) := by
    unfold sForX
    rw [cr]
    dsimp only
    rw [if_pos (len_big (by rw [List.length_map]; exact many))]
    exact lp
  refine g_st43 fx ?_
  let g := (Vv N (rdR R) N).length
  have tp : fTupRg1 (lenS (faCons (fVar 3) faNil)) (T43 x0 R g none none none) n1 = some (.d (.tuple (P43 N)), n1) := by
    unfold fTupRg1
    rw [len43]
    show (if rgOk 0 ((N : Nat) : Int) = true then some (Sv.d (.tuple (intsUp 0 ((N : Nat) : Int).toNat)), n1) else none) = _
    rw [if_pos (by unfold rgOk; have : (big : Int) = 100000 := rfl; simp only [Bool.and_eq_true, decide_eq_true_eq]; omega), ups_eq]
    rfl
  refine g_set (sv := .d (.tuple (P43 N))) (n1 := n1) tp rfl ?_
  let e1 := T43 x0 R g none (some (.d (.tuple (P43 N)))) none
  obtain ⟨c1, c2⟩ := cut_small N s1 s5
  have pl : (P43 N).length = N := by
    unfold P43
    rw [List.length_map, List.length_range]
  have b1 : fBi (see1 lstG) (faCons (fVar 11) faNil) e1 n1 = some (.cell (P43 N), n1) := rfl
  have b2 : fSl (fVar 11) oNone (oSome (fNeg (fC (.int 1)))) e1 n1 = some (.d (.tuple (cutD (P43 N) none (some (-1)))), n1) := rfl
  have b3 : fOp2 addL (fVar 11) (fTup (faCons (fC (.int 0)) faNil)) e1 n1 = some (.d (.tuple (P43 N ++ [.int 0])), n1) := catT_ev (n1 := n1) rfl rfl (by rw [pl, List.length_singleton]; omega)
  have b5 : fOp2 addL (fTup (faCons (fNeg (fC (.int 1))) faNil)) (fSl (fVar 11) (oSome (fC (.int 1))) oNone) e1 n1 = some (.d (.tuple ([.int (-1)] ++ cutD (P43 N) (some 1) none)), n1) := catT_ev (n1 := n1) rfl rfl (by rw [List.length_singleton]; omega)
  have b6 : fOp2 addL (fSl (fVar 11) oNone (oSome (fNeg (fC (.int 1))))) (fTup (faCons (lenS (faCons (fVar 3) faNil)) faNil)) e1 n1 = some (.d (.tuple (cutD (P43 N) none (some (-1)) ++ [natD N])), n1) :=
    catT_ev (n1 := n1) rfl (tupN_ev (fa_c (len43 x0 R g none (some (.d (.tuple (P43 N)))) none n1) fa_n) rfl (by show 1 ≤ 1000; decide)) (by rw [List.length_singleton]; omega)
  have fl6 := lst_evR (fa_c b1 (fa_c b2 (fa_c b3 (fa_c (f := fC .none) (a := .d .none) rfl (fa_c b5 (fa_c b6 fa_n)))))) (xs := (bad43 N).take 6) rfl (by show 6 ≤ 1000; decide)
  refine g_set (sv := .cell ((bad43 N).take 6)) (n1 := n1) fl6 rfl ?_
  let e2 := T43 x0 R g none (some (.d (.tuple (P43 N)))) (some (.cell ((bad43 N).take 6)))
  have b7 : fOp2 (seeB mulD) (fTup (faCons (fC (.bool true)) faNil)) (lenS (faCons (fVar 3) faNil)) e2 n1 = some (.d (.tuple (List.replicate N [PyData.bool true]).flatten), n1) :=
    cmp_ev (a := .tuple [.bool true]) (b := natD N) rfl (len43 x0 R g none (some (.d (.tuple (P43 N)))) (some (.cell ((bad43 N).take 6))) n1) (by
      show (if 1 ≤ ((N : Nat) : Int) ∧ ((N : Nat) : Int) ≤ 1000 ∧ [PyData.bool true].length ≤ 1000 then some (PyData.tuple (List.replicate ((N : Nat) : Int).toNat [PyData.bool true]).flatten) else none) = _
      rw [if_pos ⟨by omega, by omega, by decide⟩, Int.toNat_natCast])
  refine g_st43 (e1 := T43 x0 R g none (some (.d (.tuple (P43 N)))) (some (.cell (bad43 N)))) (n1 := n1) (app_ev b7 (xs := (bad43 N).take 6) rfl (by show 6 < 100000; decide)) ?_
  let e3 := T43 x0 R g none (some (.d (.tuple (P43 N)))) (some (.cell (bad43 N)))
  have ba := List.all_eq_true.mp (bad_all N s1 s5)
  have lc := lc_ev' (it := itSee (fVar 12)) (tg := tgN 10) (own := [10]) (t := tT) (f := fCall 2 F_is_order (faCons (fVar 2) (faCons (fVar 10) faNil))) (e := e3) (n := n1) (n1 := n1) (xs := bad43 N) rfl (by show 7 ≤ 100000; decide) (lc_map (g := fun _ => .bool false) rfl fun d hd =>
    call_ev (as := [.d R.enc, .d d]) rfl rfl (bad_no hR (ba d hd) n1))
  have an := any_map (bs := [false, false, false, false, false, false, false]) (f := fLc (itSee (fVar 12)) (tgN 10) [10] tT (fCall 2 F_is_order (faCons (fVar 2) (faCons (fVar 10) faNil)))) (e := e3) (n := n1) (n1 := n1) lc
  have plain : F_is_order [.d R.enc, .d (.tuple (P43 N))] n1 = some (.d (.bool true), n1) := by
    have h := order_row hR (w := List.range N) hN (fun x hx => List.mem_range.mp hx) n1
    have o := ord_plain (rd := rdR R) (n := N) (rd_less43 hR) N 0 (by omega)
    rw [← List.range_eq_range'] at o
    rw [show List.range 0 = [] from rfl] at o
    rw [o] at h
    exact h
  have t2 : bT (fOp2 (seeB (isNoneD true)) (fCall 2 F_is_order (faCons (fVar 2) (faCons (fVar 11) faNil))) (fC (.bool true))) e3 n1 = some (false, n1) := bt (cmp_ev (a := .bool true) (b := .bool true) (call_ev (as := [.d R.enc, .d (.tuple (P43 N))]) rfl rfl plain) rfl rfl)
  refine g_no ((or_t (bt an)).trans t2) (g_frz (g_ret ?_))
  have cc := call_ev (F := F_count_orders) (np := 1) (fa := faCons (fVar 2) faNil) (e := e3) (n := n1) (as := [.d R.enc]) rfl rfl (m_count_orders hR s5 n1)
  exact cmp_ev (g := eqD false) (fb := fVar 4) (b := natD g) cc rfl (by
    show some (PyData.bool (decide ((((Vv R.ss.length (rdR R) R.ss.length).length : Nat) : Int) = (((Vv R.ss.length (rdR R) R.ss.length).length : Nat) : Int)) != false)) = _
    rw [decide_eq_true rfl]
    rfl)
end Sb
namespace Sb
open PySem PySem.Spec PyProof.Rows L2
theorem ok_law {P : Program} {w : World} {K : PySem.W.Frag} {mg : Str → Option Value} {base : Heap} (T : Tx K mg w) : FnOk P w K mg base CX0 10 T.f_law T.d_law ["_law_script"] (spLaw K) := ok_law_of law_true T
theorem all_mk {l : PySem.W.OpenLaw} {w : World} {K : PySem.W.Frag} {h : Heap} {mg : Str → Option Value} {fa : Addr} (X : K.In h) (G : h.Ns mainGlobals mg) (hfa : mg "law" = some (.ref fa))
    {f0 : Addr} {od0 an0 : Option Addr} {sl0 : Array (Option Value)} {oc0 kV0 dc0 pm0 cd0 ct0 : Value}
    (a0 : PySem.W.nsIn K mainGlobals "is_number" = some (some (.ref f0))) (l0 : K.lookup f0 = some ⟨oc0, od0, .func (PySem.W.fnOf "is_number" "is_number" (defArgs s_is_number) (defBody s_is_number) (defScope s_is_number) .none kV0 dc0 pm0 an0 cd0 ct0), sl0⟩) (c0 : PySem.W.codeIn K cd0 "is_number" = true) (k0 : PySem.W.keepIn K (.ref f0) = true)
    {f1 : Addr} {od1 an1 : Option Addr} {sl1 : Array (Option Value)} {oc1 kV1 dc1 pm1 cd1 ct1 : Value}
    (a1 : PySem.W.nsIn K mainGlobals "is_tuple" = some (some (.ref f1))) (l1 : K.lookup f1 = some ⟨oc1, od1, .func (PySem.W.fnOf "is_tuple" "is_tuple" (defArgs s_is_tuple) (defBody s_is_tuple) (defScope s_is_tuple) .none kV1 dc1 pm1 an1 cd1 ct1), sl1⟩) (c1 : PySem.W.codeIn K cd1 "is_tuple" = true) (k1 : PySem.W.keepIn K (.ref f1) = true)
    {f2 : Addr} {od2 an2 : Option Addr} {sl2 : Array (Option Value)} {oc2 kV2 dc2 pm2 cd2 ct2 : Value}
    (a2 : PySem.W.nsIn K mainGlobals "is_text" = some (some (.ref f2))) (l2 : K.lookup f2 = some ⟨oc2, od2, .func (PySem.W.fnOf "is_text" "is_text" (defArgs s_is_text) (defBody s_is_text) (defScope s_is_text) .none kV2 dc2 pm2 an2 cd2 ct2), sl2⟩) (c2 : PySem.W.codeIn K cd2 "is_text" = true) (k2 : PySem.W.keepIn K (.ref f2) = true)
    {f3 : Addr} {od3 an3 : Option Addr} {sl3 : Array (Option Value)} {oc3 kV3 dc3 pm3 cd3 ct3 : Value}
    (a3 : PySem.W.nsIn K mainGlobals "is_ascending" = some (some (.ref f3))) (l3 : K.lookup f3 = some ⟨oc3, od3, .func (PySem.W.fnOf "is_ascending" "is_ascending" (defArgs s_is_ascending) (defBody s_is_ascending) (defScope s_is_ascending) .none kV3 dc3 pm3 an3 cd3 ct3), sl3⟩) (c3 : PySem.W.codeIn K cd3 "is_ascending" = true) (k3 : PySem.W.keepIn K (.ref f3) = true)
    {f4 : Addr} {od4 an4 : Option Addr} {sl4 : Array (Option Value)} {oc4 kV4 dc4 pm4 cd4 ct4 : Value}
    (a4 : PySem.W.nsIn K mainGlobals "is_thing" = some (some (.ref f4))) (l4 : K.lookup f4 = some ⟨oc4, od4, .func (PySem.W.fnOf "is_thing" "is_thing" (defArgs s_is_thing) (defBody s_is_thing) (defScope s_is_thing) .none kV4 dc4 pm4 an4 cd4 ct4), sl4⟩) (c4 : PySem.W.codeIn K cd4 "is_thing" = true) (k4 : PySem.W.keepIn K (.ref f4) = true)
    {f5 : Addr} {od5 an5 : Option Addr} {sl5 : Array (Option Value)} {oc5 kV5 dc5 pm5 cd5 ct5 : Value}
    (a5 : PySem.W.nsIn K mainGlobals "are_things" = some (some (.ref f5))) (l5 : K.lookup f5 = some ⟨oc5, od5, .func (PySem.W.fnOf "are_things" "are_things" (defArgs s_are_things) (defBody s_are_things) (defScope s_are_things) .none kV5 dc5 pm5 an5 cd5 ct5), sl5⟩) (c5 : PySem.W.codeIn K cd5 "are_things" = true) (k5 : PySem.W.keepIn K (.ref f5) = true)
    {f6 : Addr} {od6 an6 : Option Addr} {sl6 : Array (Option Value)} {oc6 kV6 dc6 pm6 cd6 ct6 : Value}
    (a6 : PySem.W.nsIn K mainGlobals "is_reading" = some (some (.ref f6))) (l6 : K.lookup f6 = some ⟨oc6, od6, .func (PySem.W.fnOf "is_reading" "is_reading" (defArgs s_is_reading) (defBody s_is_reading) (defScope s_is_reading) .none kV6 dc6 pm6 an6 cd6 ct6), sl6⟩) (c6 : PySem.W.codeIn K cd6 "is_reading" = true) (k6 : PySem.W.keepIn K (.ref f6) = true)
    {f7 : Addr} {od7 an7 : Option Addr} {sl7 : Array (Option Value)} {oc7 kV7 dc7 pm7 cd7 ct7 : Value}
    (a7 : PySem.W.nsIn K mainGlobals "is_step" = some (some (.ref f7))) (l7 : K.lookup f7 = some ⟨oc7, od7, .func (PySem.W.fnOf "is_step" "is_step" (defArgs s_is_step) (defBody s_is_step) (defScope s_is_step) .none kV7 dc7 pm7 an7 cd7 ct7), sl7⟩) (c7 : PySem.W.codeIn K cd7 "is_step" = true) (k7 : PySem.W.keepIn K (.ref f7) = true)
    {f8 : Addr} {od8 an8 : Option Addr} {sl8 : Array (Option Value)} {oc8 kV8 dc8 pm8 cd8 ct8 : Value}
    (a8 : PySem.W.nsIn K mainGlobals "are_steps" = some (some (.ref f8))) (l8 : K.lookup f8 = some ⟨oc8, od8, .func (PySem.W.fnOf "are_steps" "are_steps" (defArgs s_are_steps) (defBody s_are_steps) (defScope s_are_steps) .none kV8 dc8 pm8 an8 cd8 ct8), sl8⟩) (c8 : PySem.W.codeIn K cd8 "are_steps" = true) (k8 : PySem.W.keepIn K (.ref f8) = true)
    {f9 : Addr} {od9 an9 : Option Addr} {sl9 : Array (Option Value)} {oc9 kV9 dc9 pm9 cd9 ct9 : Value}
    (a9 : PySem.W.nsIn K mainGlobals "is_made" = some (some (.ref f9))) (l9 : K.lookup f9 = some ⟨oc9, od9, .func (PySem.W.fnOf "is_made" "is_made" (defArgs s_is_made) (defBody s_is_made) (defScope s_is_made) .none kV9 dc9 pm9 an9 cd9 ct9), sl9⟩) (c9 : PySem.W.codeIn K cd9 "is_made" = true) (k9 : PySem.W.keepIn K (.ref f9) = true)
    {f10 : Addr} {od10 an10 : Option Addr} {sl10 : Array (Option Value)} {oc10 kV10 dc10 pm10 cd10 ct10 : Value}
    (a10 : PySem.W.nsIn K mainGlobals "is_recipe" = some (some (.ref f10))) (l10 : K.lookup f10 = some ⟨oc10, od10, .func (PySem.W.fnOf "is_recipe" "is_recipe" (defArgs s_is_recipe) (defBody s_is_recipe) (defScope s_is_recipe) .none kV10 dc10 pm10 an10 cd10 ct10), sl10⟩) (c10 : PySem.W.codeIn K cd10 "is_recipe" = true) (k10 : PySem.W.keepIn K (.ref f10) = true)
    {f11 : Addr} {od11 an11 : Option Addr} {sl11 : Array (Option Value)} {oc11 kV11 dc11 pm11 cd11 ct11 : Value}
    (a11 : PySem.W.nsIn K mainGlobals "check_recipe" = some (some (.ref f11))) (l11 : K.lookup f11 = some ⟨oc11, od11, .func (PySem.W.fnOf "check_recipe" "check_recipe" (defArgs s_check_recipe) (defBody s_check_recipe) (defScope s_check_recipe) .none kV11 dc11 pm11 an11 cd11 ct11), sl11⟩) (c11 : PySem.W.codeIn K cd11 "check_recipe" = true) (k11 : PySem.W.keepIn K (.ref f11) = true)
    {f12 : Addr} {od12 an12 : Option Addr} {sl12 : Array (Option Value)} {oc12 kV12 dc12 pm12 cd12 ct12 : Value}
    (a12 : PySem.W.nsIn K mainGlobals "steps_read" = some (some (.ref f12))) (l12 : K.lookup f12 = some ⟨oc12, od12, .func (PySem.W.fnOf "steps_read" "steps_read" (defArgs s_steps_read) (defBody s_steps_read) (defScope s_steps_read) .none kV12 dc12 pm12 an12 cd12 ct12), sl12⟩) (c12 : PySem.W.codeIn K cd12 "steps_read" = true) (k12 : PySem.W.keepIn K (.ref f12) = true)
    {f13 : Addr} {od13 an13 : Option Addr} {sl13 : Array (Option Value)} {oc13 kV13 dc13 pm13 cd13 ct13 : Value}
    (a13 : PySem.W.nsIn K mainGlobals "is_order_of" = some (some (.ref f13))) (l13 : K.lookup f13 = some ⟨oc13, od13, .func (PySem.W.fnOf "is_order_of" "is_order_of" (defArgs s_is_order_of) (defBody s_is_order_of) (defScope s_is_order_of) .none kV13 dc13 pm13 an13 cd13 ct13), sl13⟩) (c13 : PySem.W.codeIn K cd13 "is_order_of" = true) (k13 : PySem.W.keepIn K (.ref f13) = true)
    {f14 : Addr} {od14 an14 : Option Addr} {sl14 : Array (Option Value)} {oc14 kV14 dc14 pm14 cd14 ct14 : Value}
    (a14 : PySem.W.nsIn K mainGlobals "is_order" = some (some (.ref f14))) (l14 : K.lookup f14 = some ⟨oc14, od14, .func (PySem.W.fnOf "is_order" "is_order" (defArgs s_is_order) (defBody s_is_order) (defScope s_is_order) .none kV14 dc14 pm14 an14 cd14 ct14), sl14⟩) (c14 : PySem.W.codeIn K cd14 "is_order" = true) (k14 : PySem.W.keepIn K (.ref f14) = true)
    {f15 : Addr} {od15 an15 : Option Addr} {sl15 : Array (Option Value)} {oc15 kV15 dc15 pm15 cd15 ct15 : Value}
    (a15 : PySem.W.nsIn K mainGlobals "free_steps" = some (some (.ref f15))) (l15 : K.lookup f15 = some ⟨oc15, od15, .func (PySem.W.fnOf "free_steps" "free_steps" (defArgs s_free_steps) (defBody s_free_steps) (defScope s_free_steps) .none kV15 dc15 pm15 an15 cd15 ct15), sl15⟩) (c15 : PySem.W.codeIn K cd15 "free_steps" = true) (k15 : PySem.W.keepIn K (.ref f15) = true)
    {f16 : Addr} {od16 an16 : Option Addr} {sl16 : Array (Option Value)} {oc16 kV16 dc16 pm16 cd16 ct16 : Value}
    (a16 : PySem.W.nsIn K mainGlobals "count_orders" = some (some (.ref f16))) (l16 : K.lookup f16 = some ⟨oc16, od16, .func (PySem.W.fnOf "count_orders" "count_orders" (defArgs s_count_orders) (defBody s_count_orders) (defScope s_count_orders) .none kV16 dc16 pm16 an16 cd16 ct16), sl16⟩) (c16 : PySem.W.codeIn K cd16 "count_orders" = true) (k16 : PySem.W.keepIn K (.ref f16) = true)
    {f17 : Addr} {od17 an17 : Option Addr} {sl17 : Array (Option Value)} {oc17 kV17 dc17 pm17 cd17 ct17 : Value}
    (a17 : PySem.W.nsIn K mainGlobals "_law_same_truth" = some (some (.ref f17))) (l17 : K.lookup f17 = some ⟨oc17, od17, .func (PySem.W.fnOf "_law_same_truth" "_law_same_truth" (defArgs s_same_truth) (defBody s_same_truth) (defScope s_same_truth) .none kV17 dc17 pm17 an17 cd17 ct17), sl17⟩) (c17 : PySem.W.codeIn K cd17 "_law_same_truth" = true) (k17 : PySem.W.keepIn K (.ref f17) = true)
    {f18 : Addr} {od18 an18 : Option Addr} {sl18 : Array (Option Value)} {oc18 kV18 dc18 pm18 cd18 ct18 : Value}
    (a18 : PySem.W.nsIn K mainGlobals "_law_cell_at" = some (some (.ref f18))) (l18 : K.lookup f18 = some ⟨oc18, od18, .func (PySem.W.fnOf "_law_cell_at" "_law_cell_at" (defArgs s_cell_at) (defBody s_cell_at) (defScope s_cell_at) .none kV18 dc18 pm18 an18 cd18 ct18), sl18⟩) (c18 : PySem.W.codeIn K cd18 "_law_cell_at" = true) (k18 : PySem.W.keepIn K (.ref f18) = true)
    {f19 : Addr} {od19 an19 : Option Addr} {sl19 : Array (Option Value)} {oc19 kV19 dc19 pm19 cd19 ct19 : Value}
    (a19 : PySem.W.nsIn K mainGlobals "_law_mixed" = some (some (.ref f19))) (l19 : K.lookup f19 = some ⟨oc19, od19, .func (PySem.W.fnOf "_law_mixed" "_law_mixed" (defArgs s_mixed) (defBody s_mixed) (defScope s_mixed) .none kV19 dc19 pm19 an19 cd19 ct19), sl19⟩) (c19 : PySem.W.codeIn K cd19 "_law_mixed" = true) (k19 : PySem.W.keepIn K (.ref f19) = true)
    {f20 : Addr} {od20 an20 : Option Addr} {sl20 : Array (Option Value)} {oc20 kV20 dc20 pm20 cd20 ct20 : Value}
    (a20 : PySem.W.nsIn K mainGlobals "_law_draw" = some (some (.ref f20))) (l20 : K.lookup f20 = some ⟨oc20, od20, .func (PySem.W.fnOf "_law_draw" "_law_draw" (defArgs s_draw) (defBody s_draw) (defScope s_draw) .none kV20 dc20 pm20 an20 cd20 ct20), sl20⟩) (c20 : PySem.W.codeIn K cd20 "_law_draw" = true) (k20 : PySem.W.keepIn K (.ref f20) = true)
    {f21 : Addr} {od21 an21 : Option Addr} {sl21 : Array (Option Value)} {oc21 kV21 dc21 pm21 cd21 ct21 : Value}
    (a21 : PySem.W.nsIn K mainGlobals "_law_some_of" = some (some (.ref f21))) (l21 : K.lookup f21 = some ⟨oc21, od21, .func (PySem.W.fnOf "_law_some_of" "_law_some_of" (defArgs s_some_of) (defBody s_some_of) (defScope s_some_of) .none kV21 dc21 pm21 an21 cd21 ct21), sl21⟩) (c21 : PySem.W.codeIn K cd21 "_law_some_of" = true) (k21 : PySem.W.keepIn K (.ref f21) = true)
    {f22 : Addr} {od22 an22 : Option Addr} {sl22 : Array (Option Value)} {oc22 kV22 dc22 pm22 cd22 ct22 : Value}
    (a22 : PySem.W.nsIn K mainGlobals "_law_pick" = some (some (.ref f22))) (l22 : K.lookup f22 = some ⟨oc22, od22, .func (PySem.W.fnOf "_law_pick" "_law_pick" (defArgs s_pick) (defBody s_pick) (defScope s_pick) .none kV22 dc22 pm22 an22 cd22 ct22), sl22⟩) (c22 : PySem.W.codeIn K cd22 "_law_pick" = true) (k22 : PySem.W.keepIn K (.ref f22) = true)
    {f23 : Addr} {od23 an23 : Option Addr} {sl23 : Array (Option Value)} {oc23 kV23 dc23 pm23 cd23 ct23 : Value}
    (a23 : PySem.W.nsIn K mainGlobals "_law_some_thing" = some (some (.ref f23))) (l23 : K.lookup f23 = some ⟨oc23, od23, .func (PySem.W.fnOf "_law_some_thing" "_law_some_thing" (defArgs s_some_thing) (defBody s_some_thing) (defScope s_some_thing) .none kV23 dc23 pm23 an23 cd23 ct23), sl23⟩) (c23 : PySem.W.codeIn K cd23 "_law_some_thing" = true) (k23 : PySem.W.keepIn K (.ref f23) = true)
    {f24 : Addr} {od24 an24 : Option Addr} {sl24 : Array (Option Value)} {oc24 kV24 dc24 pm24 cd24 ct24 : Value}
    (a24 : PySem.W.nsIn K mainGlobals "_law_some_step" = some (some (.ref f24))) (l24 : K.lookup f24 = some ⟨oc24, od24, .func (PySem.W.fnOf "_law_some_step" "_law_some_step" (defArgs s_some_step) (defBody s_some_step) (defScope s_some_step) .none kV24 dc24 pm24 an24 cd24 ct24), sl24⟩) (c24 : PySem.W.codeIn K cd24 "_law_some_step" = true) (k24 : PySem.W.keepIn K (.ref f24) = true)
    {f25 : Addr} {od25 an25 : Option Addr} {sl25 : Array (Option Value)} {oc25 kV25 dc25 pm25 cd25 ct25 : Value}
    (a25 : PySem.W.nsIn K mainGlobals "_law_some_recipe" = some (some (.ref f25))) (l25 : K.lookup f25 = some ⟨oc25, od25, .func (PySem.W.fnOf "_law_some_recipe" "_law_some_recipe" (defArgs s_some_recipe) (defBody s_some_recipe) (defScope s_some_recipe) .none kV25 dc25 pm25 an25 cd25 ct25), sl25⟩) (c25 : PySem.W.codeIn K cd25 "_law_some_recipe" = true) (k25 : PySem.W.keepIn K (.ref f25) = true)
    {f26 : Addr} {od26 an26 : Option Addr} {sl26 : Array (Option Value)} {oc26 kV26 dc26 pm26 cd26 ct26 : Value}
    (a26 : PySem.W.nsIn K mainGlobals "_law_rows" = some (some (.ref f26))) (l26 : K.lookup f26 = some ⟨oc26, od26, .func (PySem.W.fnOf "_law_rows" "_law_rows" (defArgs s_rows) (defBody s_rows) (defScope s_rows) .none kV26 dc26 pm26 an26 cd26 ct26), sl26⟩) (c26 : PySem.W.codeIn K cd26 "_law_rows" = true) (k26 : PySem.W.keepIn K (.ref f26) = true)
    {f27 : Addr} {od27 an27 : Option Addr} {sl27 : Array (Option Value)} {oc27 kV27 dc27 pm27 cd27 ct27 : Value}
    (a27 : PySem.W.nsIn K mainGlobals "law" = some (some (.ref f27))) (l27 : K.lookup f27 = some ⟨oc27, od27, .func (PySem.W.fnOf "law" "law" (defArgs s_law) (defBody s_law) (defScope s_law) .none kV27 dc27 pm27 an27 cd27 ct27), sl27⟩) (c27 : PySem.W.codeIn K cd27 "law" = true) (k27 : PySem.W.keepIn K (.ref f27) = true)
    {ck0 : Tok} (g0 : PySem.W.nsIn K mainGlobals "MOST_THINGS" = some (some (.int 5 ck0)))
    {ck1 : Tok} (g1 : PySem.W.nsIn K mainGlobals "MOST_TEXTS" = some (some (.int 4 ck1)))
    {ck2 : Tok} (g2 : PySem.W.nsIn K mainGlobals "LONGEST_TEXT" = some (some (.int 4 ck2)))
    {ck3 : Tok} (g3 : PySem.W.nsIn K mainGlobals "MOST_WORLDS" = some (some (.int 256 ck3)))
    {ck4 : Tok} (g4 : PySem.W.nsIn K mainGlobals "MOST_STEPS" = some (some (.int 8 ck4)))
    {ck5 : Tok} (g5 : PySem.W.nsIn K mainGlobals "MOST_MADE" = some (some (.int 3 ck5)))
    {ca6 : Addr} {ce6 : Array DictEntry} {cn6 : Nat} (g6 : PySem.W.nsIn K mainGlobals "READINGS" = some (some (.ref ca6))) (ml6 : K.lookup ca6 = some ⟨.type "dict", none, .dict ce6 cn6, #[]⟩) (mk6 : PySem.W.KeysLit w.params ce6.toList) (mm6 : ce6.toList.map (fun e => (keyD e, valD e)) = mREADINGS.map fun p => (some p.1, some p.2)) (mz6 : (ca6 == sysModules) = false)
    (z0 : PySem.W.nsIn K mainGlobals "len" = some none)
    (z1 : PySem.W.nsIn K mainGlobals "int" = some none)
    (z2 : PySem.W.nsIn K mainGlobals "str" = some none)
    (z3 : PySem.W.nsIn K mainGlobals "bool" = some none)
    (z4 : PySem.W.nsIn K mainGlobals "tuple" = some none)
    (z5 : PySem.W.nsIn K mainGlobals "list" = some none)
    (z6 : PySem.W.nsIn K mainGlobals "isinstance" = some none)
    (z7 : PySem.W.nsIn K mainGlobals "range" = some none)
    (z8 : PySem.W.nsIn K mainGlobals "min" = some none)
    (z9 : PySem.W.nsIn K mainGlobals "any" = some none)
    (z10 : PySem.W.nsIn K mainGlobals "sorted" = some none)
    (z11 : PySem.W.nsIn K mainGlobals "set" = some none)
    (z12 : PySem.W.nsIn K mainGlobals "enumerate" = some none)
    (z13 : PySem.W.nsIn K mainGlobals "sum" = some none)
    : ∃ fd : FuncData, (∀ (s : Shared) (v : Value), BindsTo s fd ⟨[v], []⟩ [("_law_script", v)]) ∧ ∀ base : Heap, K.In base → base.Ns mainGlobals mg → FnOk l.prog w K mg base CX0 10 fa fd ["_law_script"] (spLaw K) := by
  have e := hfa.symm.trans (PySem.W.mg_of X G a27)
  cases e
  have F0 := fun_mk (st := s_is_number) l0 c0 k0
  have b0 := F0.binds (ps := ["value", "least", "most"]) fun _ _ _ _ _ _ us hl => match us, hl with | [_, _, _], _ => rfl
  have F1 := fun_mk (st := s_is_tuple) l1 c1 k1
  have b1 := F1.binds (ps := ["value", "least", "most"]) fun _ _ _ _ _ _ us hl => match us, hl with | [_, _, _], _ => rfl
  have F2 := fun_mk (st := s_is_text) l2 c2 k2
  have b2 := F2.binds (ps := ["value", "longest"]) fun _ _ _ _ _ _ us hl => match us, hl with | [_, _], _ => rfl
  have F3 := fun_mk (st := s_is_ascending) l3 c3 k3
  have b3 := F3.binds (ps := ["values"]) fun _ _ _ _ _ _ us hl => match us, hl with | [_], _ => rfl
  have F4 := fun_mk (st := s_is_thing) l4 c4 k4
  have b4 := F4.binds (ps := ["value"]) fun _ _ _ _ _ _ us hl => match us, hl with | [_], _ => rfl
  have F5 := fun_mk (st := s_are_things) l5 c5 k5
  have b5 := F5.binds (ps := ["value"]) fun _ _ _ _ _ _ us hl => match us, hl with | [_], _ => rfl
  have F6 := fun_mk (st := s_is_reading) l6 c6 k6
  have b6 := F6.binds (ps := ["value", "many_things", "step"]) fun _ _ _ _ _ _ us hl => match us, hl with | [_, _, _], _ => rfl
  have F7 := fun_mk (st := s_is_step) l7 c7 k7
  have b7 := F7.binds (ps := ["value", "many_things", "step"]) fun _ _ _ _ _ _ us hl => match us, hl with | [_, _, _], _ => rfl
  have F8 := fun_mk (st := s_are_steps) l8 c8 k8
  have b8 := F8.binds (ps := ["value", "many_things"]) fun _ _ _ _ _ _ us hl => match us, hl with | [_, _], _ => rfl
  have F9 := fun_mk (st := s_is_made) l9 c9 k9
  have b9 := F9.binds (ps := ["value", "many_steps"]) fun _ _ _ _ _ _ us hl => match us, hl with | [_, _], _ => rfl
  have F10 := fun_mk (st := s_is_recipe) l10 c10 k10
  have b10 := F10.binds (ps := ["value"]) fun _ _ _ _ _ _ us hl => match us, hl with | [_], _ => rfl
  have F11 := fun_mk (st := s_check_recipe) l11 c11 k11
  have b11 := F11.binds (ps := ["value"]) fun _ _ _ _ _ _ us hl => match us, hl with | [_], _ => rfl
  have F12 := fun_mk (st := s_steps_read) l12 c12 k12
  have b12 := F12.binds (ps := ["recipe"]) fun _ _ _ _ _ _ us hl => match us, hl with | [_], _ => rfl
  have F13 := fun_mk (st := s_is_order_of) l13 c13 k13
  have b13 := F13.binds (ps := ["recipe", "value"]) fun _ _ _ _ _ _ us hl => match us, hl with | [_, _], _ => rfl
  have F14 := fun_mk (st := s_is_order) l14 c14 k14
  have b14 := F14.binds (ps := ["recipe", "value"]) fun _ _ _ _ _ _ us hl => match us, hl with | [_, _], _ => rfl
  have F15 := fun_mk (st := s_free_steps) l15 c15 k15
  have b15 := F15.binds (ps := ["read", "done"]) fun _ _ _ _ _ _ us hl => match us, hl with | [_, _], _ => rfl
  have F16 := fun_mk (st := s_count_orders) l16 c16 k16
  have b16 := F16.binds (ps := ["recipe"]) fun _ _ _ _ _ _ us hl => match us, hl with | [_], _ => rfl
  have F17 := fun_mk (st := s_same_truth) l17 c17 k17
  have b17 := F17.binds (ps := ["_law_got", "_law_due"]) fun _ _ _ _ _ _ us hl => match us, hl with | [_, _], _ => rfl
  have F18 := fun_mk (st := s_cell_at) l18 c18 k18
  have b18 := F18.binds (ps := ["_law_script", "_law_k"]) fun _ _ _ _ _ _ us hl => match us, hl with | [_, _], _ => rfl
  have F19 := fun_mk (st := s_mixed) l19 c19 k19
  have b19 := F19.binds (ps := ["_law_script", "_law_k", "_law_many"]) fun _ _ _ _ _ _ us hl => match us, hl with | [_, _, _], _ => rfl
  have F20 := fun_mk (st := s_draw) l20 c20 k20
  have b20 := F20.binds (ps := ["_law_script", "_law_state", "_law_many"]) fun _ _ _ _ _ _ us hl => match us, hl with | [_, _, _], _ => rfl
  have F21 := fun_mk (st := s_some_of) l21 c21 k21
  have b21 := F21.binds (ps := ["_law_script", "_law_state", "_law_some", "_law_count"]) fun _ _ _ _ _ _ us hl => match us, hl with | [_, _, _, _], _ => rfl
  have F22 := fun_mk (st := s_pick) l22 c22 k22
  have b22 := F22.binds (ps := ["_law_script", "_law_state", "_law_some"]) fun _ _ _ _ _ _ us hl => match us, hl with | [_, _, _], _ => rfl
  have F23 := fun_mk (st := s_some_thing) l23 c23 k23
  have b23 := F23.binds (ps := ["_law_script", "_law_state"]) fun _ _ _ _ _ _ us hl => match us, hl with | [_, _], _ => rfl
  have F24 := fun_mk (st := s_some_step) l24 c24 k24
  have b24 := F24.binds (ps := ["_law_script", "_law_state", "_law_things", "_law_count"]) fun _ _ _ _ _ _ us hl => match us, hl with | [_, _, _, _], _ => rfl
  have F25 := fun_mk (st := s_some_recipe) l25 c25 k25
  have b25 := F25.binds (ps := ["_law_script", "_law_state"]) fun _ _ _ _ _ _ us hl => match us, hl with | [_, _], _ => rfl
  have F26 := fun_mk (st := s_rows) l26 c26 k26
  have b26 := F26.binds (ps := ["_law_left", "_law_row"]) fun _ _ _ _ _ _ us hl => match us, hl with | [_, _], _ => rfl
  have F27 := fun_mk (st := s_law) l27 c27 k27
  have b27 := F27.binds (ps := ["_law_script"]) fun _ _ _ _ _ _ us hl => match us, hl with | [_], _ => rfl
  refine ⟨_, fun s v => .of_eq rfl, fun base _ _ => ok_law (T := ⟨
    ⟨⟨f0, _, F0, PySem.W.mg_of X G a0, b0, f1, _, F1, PySem.W.mg_of X G a1, b1, f2, _, F2, PySem.W.mg_of X G a2, b2, f3, _, F3, PySem.W.mg_of X G a3, b3, f4, _, F4, PySem.W.mg_of X G a4, b4, f5, _, F5, PySem.W.mg_of X G a5, b5, f6, _, F6, PySem.W.mg_of X G a6, b6, f7, _, F7, PySem.W.mg_of X G a7, b7, f8, _, F8, PySem.W.mg_of X G a8, b8, f9, _, F9, PySem.W.mg_of X G a9, b9, f10, _, F10, PySem.W.mg_of X G a10, b10, f11, _, F11, PySem.W.mg_of X G a11, b11⟩, f12, _, F12, PySem.W.mg_of X G a12, b12, f13, _, F13, PySem.W.mg_of X G a13, b13, f14, _, F14, PySem.W.mg_of X G a14, b14, f15, _, F15, PySem.W.mg_of X G a15, b15, f16, _, F16, PySem.W.mg_of X G a16, b16, f17, _, F17, PySem.W.mg_of X G a17, b17, f18, _, F18, PySem.W.mg_of X G a18, b18, f19, _, F19, PySem.W.mg_of X G a19, b19, f20, _, F20, PySem.W.mg_of X G a20, b20, f21, _, F21, PySem.W.mg_of X G a21, b21, f22, _, F22, PySem.W.mg_of X G a22, b22, f23, _, F23, PySem.W.mg_of X G a23, b23⟩, f24, _, F24, PySem.W.mg_of X G a24, b24, f25, _, F25, PySem.W.mg_of X G a25, b25, f26, _, F26, PySem.W.mg_of X G a26, b26, fa, _, F27, PySem.W.mg_of X G a27, b27, ck0, PySem.W.mg_of X G g0, ck1, PySem.W.mg_of X G g1, ck2, PySem.W.mg_of X G g2, ck3, PySem.W.mg_of X G g3, ck4, PySem.W.mg_of X G g4, ck5, PySem.W.mg_of X G g5, ca6, PySem.W.mg_of X G g6, ⟨⟨_, _, ml6, mk6, mm6⟩, mz6⟩, PySem.W.mg_none_of X G z0, PySem.W.mg_none_of X G z1, PySem.W.mg_none_of X G z2, PySem.W.mg_none_of X G z3, PySem.W.mg_none_of X G z4, PySem.W.mg_none_of X G z5, PySem.W.mg_none_of X G z6, PySem.W.mg_none_of X G z7, PySem.W.mg_none_of X G z8, PySem.W.mg_none_of X G z9, PySem.W.mg_none_of X G z10, PySem.W.mg_none_of X G z11, PySem.W.mg_none_of X G z12, PySem.W.mg_none_of X G z13⟩)⟩
end Sb
open PySem PySem.W PyProof.Rows in
set_option maxRecDepth 100000 in
set_option maxHeartbeats 0 in
theorem PySem.Challenge.cw_samebuilds_k43_whole_orders_holds : PySem.Challenge.rw_samebuilds_k43_whole_orders.Holds := by
  w_on; o_law; k_head; (case hw => w_witness2)
  k_fill
  refine L2.walk_of (l := PySem.Challenge.rw_samebuilds_k43_whole_orders) (n := 63) (k := 10) (x := "_law_script") (CX := fun _ => L2.CX0) (sp := fun w => Sb.spLaw _) rfl (by decide) rfl ⟨rfl, by decide, by decide⟩ (fun w h Y => PySem.W.kIn_of Y) ?F (fun _ _ a ns hl O hS => ⟨a, ns, rfl, O, hS, hl, fun _ => rfl⟩) (fun _ _ _ _ _ h => h)
  case F =>
    intro w mg fa h KX G hmg
    refine' Sb.all_mk KX G hmg ?sb_a0 ?sb_l0 ?sb_c0 ?sb_k0 ?sb_a1 ?sb_l1 ?sb_c1 ?sb_k1 ?sb_a2 ?sb_l2 ?sb_c2 ?sb_k2 ?sb_a3 ?sb_l3 ?sb_c3 ?sb_k3 ?sb_a4 ?sb_l4 ?sb_c4 ?sb_k4 ?sb_a5 ?sb_l5 ?sb_c5 ?sb_k5 ?sb_a6 ?sb_l6 ?sb_c6 ?sb_k6 ?sb_a7 ?sb_l7 ?sb_c7 ?sb_k7 ?sb_a8 ?sb_l8 ?sb_c8 ?sb_k8 ?sb_a9 ?sb_l9 ?sb_c9 ?sb_k9 ?sb_a10 ?sb_l10 ?sb_c10 ?sb_k10 ?sb_a11 ?sb_l11 ?sb_c11 ?sb_k11 ?sb_a12 ?sb_l12 ?sb_c12 ?sb_k12 ?sb_a13 ?sb_l13 ?sb_c13 ?sb_k13 ?sb_a14 ?sb_l14 ?sb_c14 ?sb_k14 ?sb_a15 ?sb_l15 ?sb_c15 ?sb_k15 ?sb_a16 ?sb_l16 ?sb_c16 ?sb_k16 ?sb_a17 ?sb_l17 ?sb_c17 ?sb_k17 ?sb_a18 ?sb_l18 ?sb_c18 ?sb_k18 ?sb_a19 ?sb_l19 ?sb_c19 ?sb_k19 ?sb_a20 ?sb_l20 ?sb_c20 ?sb_k20 ?sb_a21 ?sb_l21 ?sb_c21 ?sb_k21 ?sb_a22 ?sb_l22 ?sb_c22 ?sb_k22 ?sb_a23 ?sb_l23 ?sb_c23 ?sb_k23 ?sb_a24 ?sb_l24 ?sb_c24 ?sb_k24 ?sb_a25 ?sb_l25 ?sb_c25 ?sb_k25 ?sb_a26 ?sb_l26 ?sb_c26 ?sb_k26 ?sb_a27 ?sb_l27 ?sb_c27 ?sb_k27 ?sb_g0 ?sb_g1 ?sb_g2 ?sb_g3 ?sb_g4 ?sb_g5 ?sb_g6 ?sb_ml6 ?sb_mk6 ?sb_mm6 ?sb_mz6 ?sb_z0 ?sb_z1 ?sb_z2 ?sb_z3 ?sb_z4 ?sb_z5 ?sb_z6 ?sb_z7 ?sb_z8 ?sb_z9 ?sb_z10 ?sb_z11 ?sb_z12 ?sb_z13
    (case sb_a0 => k_is)
    (case sb_l0 => k_is)
    (case sb_c0 => k_is)
    (case sb_k0 => k_is)
    (case sb_a1 => k_is)
    (case sb_l1 => k_is)
    (case sb_c1 => k_is)
    (case sb_k1 => k_is)
    (case sb_a2 => k_is)
    (case sb_l2 => k_is)
    (case sb_c2 => k_is)
    (case sb_k2 => k_is)
    (case sb_a3 => k_is)
    (case sb_l3 => k_is)
    (case sb_c3 => k_is)
    (case sb_k3 => k_is)
    (case sb_a4 => k_is)
    (case sb_l4 => k_is)
    (case sb_c4 => k_is)
    (case sb_k4 => k_is)
    (case sb_a5 => k_is)
    (case sb_l5 => k_is)
    (case sb_c5 => k_is)
    (case sb_k5 => k_is)
    (case sb_a6 => k_is)
    (case sb_l6 => k_is)
    (case sb_c6 => k_is)
    (case sb_k6 => k_is)
    (case sb_a7 => k_is)
    (case sb_l7 => k_is)
    (case sb_c7 => k_is)
    (case sb_k7 => k_is)
    (case sb_a8 => k_is)
    (case sb_l8 => k_is)
    (case sb_c8 => k_is)
    (case sb_k8 => k_is)
    (case sb_a9 => k_is)
    (case sb_l9 => k_is)
    (case sb_c9 => k_is)
    (case sb_k9 => k_is)
    (case sb_a10 => k_is)
    (case sb_l10 => k_is)
    (case sb_c10 => k_is)
    (case sb_k10 => k_is)
    (case sb_a11 => k_is)
    (case sb_l11 => k_is)
    (case sb_c11 => k_is)
    (case sb_k11 => k_is)
    (case sb_a12 => k_is)
    (case sb_l12 => k_is)
    (case sb_c12 => k_is)
    (case sb_k12 => k_is)
    (case sb_a13 => k_is)
    (case sb_l13 => k_is)
    (case sb_c13 => k_is)
    (case sb_k13 => k_is)
    (case sb_a14 => k_is)
    (case sb_l14 => k_is)
    (case sb_c14 => k_is)
    (case sb_k14 => k_is)
    (case sb_a15 => k_is)
    (case sb_l15 => k_is)
    (case sb_c15 => k_is)
    (case sb_k15 => k_is)
    (case sb_a16 => k_is)
    (case sb_l16 => k_is)
    (case sb_c16 => k_is)
    (case sb_k16 => k_is)
    (case sb_a17 => k_is)
    (case sb_l17 => k_is)
    (case sb_c17 => k_is)
    (case sb_k17 => k_is)
    (case sb_a18 => k_is)
    (case sb_l18 => k_is)
    (case sb_c18 => k_is)
    (case sb_k18 => k_is)
    (case sb_a19 => k_is)
    (case sb_l19 => k_is)
    (case sb_c19 => k_is)
    (case sb_k19 => k_is)
    (case sb_a20 => k_is)
    (case sb_l20 => k_is)
    (case sb_c20 => k_is)
    (case sb_k20 => k_is)
    (case sb_a21 => k_is)
    (case sb_l21 => k_is)
    (case sb_c21 => k_is)
    (case sb_k21 => k_is)
    (case sb_a22 => k_is)
    (case sb_l22 => k_is)
    (case sb_c22 => k_is)
    (case sb_k22 => k_is)
    (case sb_a23 => k_is)
    (case sb_l23 => k_is)
    (case sb_c23 => k_is)
    (case sb_k23 => k_is)
    (case sb_a24 => k_is)
    (case sb_l24 => k_is)
    (case sb_c24 => k_is)
    (case sb_k24 => k_is)
    (case sb_a25 => k_is)
    (case sb_l25 => k_is)
    (case sb_c25 => k_is)
    (case sb_k25 => k_is)
    (case sb_a26 => k_is)
    (case sb_l26 => k_is)
    (case sb_c26 => k_is)
    (case sb_k26 => k_is)
    (case sb_a27 => k_is)
    (case sb_l27 => k_is)
    (case sb_c27 => k_is)
    (case sb_k27 => k_is)
    (case sb_g0 => k_is)
    (case sb_g1 => k_is)
    (case sb_g2 => k_is)
    (case sb_g3 => k_is)
    (case sb_g4 => k_is)
    (case sb_g5 => k_is)
    (case sb_g6 => k_is)
    (case sb_ml6 => k_is)
    (case sb_mk6 => (repeat' (first | exact True.intro | refine ⟨⟨_, _, rfl, rfl⟩, ?_⟩)))
    (case sb_mm6 => rfl)
    (case sb_mz6 => rfl)
    (case sb_z0 => k_is)
    (case sb_z1 => k_is)
    (case sb_z2 => k_is)
    (case sb_z3 => k_is)
    (case sb_z4 => k_is)
    (case sb_z5 => k_is)
    (case sb_z6 => k_is)
    (case sb_z7 => k_is)
    (case sb_z8 => k_is)
    (case sb_z9 => k_is)
    (case sb_z10 => k_is)
    (case sb_z11 => k_is)
    (case sb_z12 => k_is)
    (case sb_z13 => k_is)
