import PyProof.Rows.All
import Wide.All
import OpenK.AllK
import Wide.FinOn
import HandS.ForMost
import HandS.TupAny
import HandS.TupMul
import HandS.IsInst
import HandS.Deep
import HandS.Conv
import KE.DataCmp
import HandS.Style
import HandS.SetFor
import HandS.Strs
import HandS.TupSets
import KE.SortData
import HandS.ExcValue
import HandS.Walk
import KE.KeyNested
import HandS.Text
import HandS.Codes
import HandS.StrMore
import PyProof.CollectStr
import PyProof.TupleOfSeq
import KE.GoesMore
import HandS.Iter
import HandS.Zip
import PyProof.SliceList
import PyProof.SliceStr2
import PyProof.Rows.StrRev
import PyProof.ListStr
import PySem.Challenge.RW_samebuilds_k46_whole_recipe_texts
set_option Elab.async false
set_option linter.all false
set_option maxRecDepth 100000
set_option maxHeartbeats 4000000
/-! Sb, the base: frames of heaps, tuples as data, what the draws ask for; two rules for a module's own dict of texts. -/
namespace Sb
open PySem PySem.Spec PyProof.Rows L2

/-! ### heaps: all but one address stands as it was -/
def Gx (st : Addr) (H H' : Hp) : Prop := ∀ b o, b ≠ st → H b = some o → H' b = some o
theorem Gx.refl (st : Addr) (H : Hp) : Gx st H H := fun _ _ _ h => h
theorem Gx.trans {st : Addr} {H H1 H2 : Hp} (a : Gx st H H1) (b : Gx st H1 H2) : Gx st H H2 := fun c o n h => b c o n (a c o n h)
theorem Gx.of {st : Addr} {H H' : Hp} (h : Same H H') : Gx st H H' := fun b o _ e => h b o e
theorem same_new {H : Hp} {p : Addr} {o : HO} (h : H p = none) : Same H (upd H p o) := fun b x e => by
  rw [upd_ne (ne_of_none e h)]
  exact e
theorem Gx.new {st : Addr} {H : Hp} {p : Addr} {o : HO} (h : H p = none) : Gx st H (upd H p o) := .of (same_new h)
theorem Gx.at_ {st : Addr} {H : Hp} {o : HO} : Gx st H (upd H st o) := fun b x n e => by
  rw [upd_ne n]
  exact e
/-- something new that is changed later -/
theorem Gx.mut {st p : Addr} {H H' : Hp} {o : HO} (g : Gx st H H') (h : H p = none) : Gx st H (upd H' p o) := fun b x n e => by
  rw [upd_ne (ne_of_none e h)]
  exact g b x n e
theorem Gx.free {st l : Addr} {H H' : Hp} (g : Gx st H H') (hs : (H st).isSome) (hs' : (H' st).isSome) (h : H' l = none) : H l = none := by
  cases q : H l with
  | none => rfl
  | some o =>
    by_cases e : l = st
    · subst e
      rw [h] at hs'
      cases hs'
    · rw [g l o e q] at h
      cases h

/-! ### tuples as data -/
mutual
inductive Tp (H : Hp) : V → PyData → Prop
  | non : Tp H .non .none
  | bl (b : Bool) : Tp H (.bl b) (.bool b)
  | int (i : Int) : Tp H (.int i) (.int i)
  | str (x : Str) : Tp H (.str x) (.str x)
  | tup {a : Addr} {xs : List V} {ds : List PyData} : H a = some (.tup xs) → TpAll H xs ds → Tp H (.ref a) (.tuple ds)
inductive TpAll (H : Hp) : List V → List PyData → Prop
  | nil : TpAll H [] []
  | cons {v : V} {vs : List V} {d : PyData} {ds : List PyData} : Tp H v d → TpAll H vs ds → TpAll H (v :: vs) (d :: ds)
end
/-- the tuples stand as they were -/
def KT (H H' : Hp) : Prop := ∀ a xs, H a = some (.tup xs) → H' a = some (.tup xs)
theorem KT.of {H H' : Hp} (h : Same H H') : KT H H' := fun a xs e => h a _ e
theorem KT.trans {H H1 H2 : Hp} (a : KT H H1) (b : KT H1 H2) : KT H H2 := fun c o h => b c o (a c o h)
mutual
theorem Tp.mono {H H' : Hp} (k : KT H H') : ∀ (d : PyData) (v : V), Tp H v d → Tp H' v d
  | .none, _, h => by cases h; exact .non
  | .bool b, _, h => by cases h; exact .bl b
  | .int i, _, h => by cases h; exact .int i
  | .str x, _, h => by cases h; exact .str x
  | .list _, _, h => by cases h
  | .tuple ds, _, h => by
    cases h with
    | tup h1 h2 => exact .tup (k _ _ h1) (TpAll.mono k ds _ h2)
  | .dict _, _, h => by cases h
theorem TpAll.mono {H H' : Hp} (k : KT H H') : ∀ (ds : List PyData) (vs : List V), TpAll H vs ds → TpAll H' vs ds
  | [], _, h => by cases h; exact .nil
  | d :: ds, _, h => by
    cases h with
    | cons h1 h2 => exact .cons (Tp.mono k d _ h1) (TpAll.mono k ds _ h2)
end
mutual
theorem Tp.dp {K : PySem.W.Frag} {H : Hp} : ∀ (d : PyData) (v : V), Tp H v d → Dp K H v d
  | .none, _, h => by cases h; exact .non
  | .bool b, _, h => by cases h; exact .bl b
  | .int i, _, h => by cases h; exact .int i
  | .str x, _, h => by cases h; exact .str x
  | .list _, _, h => by cases h
  | .tuple ds, _, h => by
    cases h with
    | tup h1 h2 => exact .tup (.inl (.inl h1)) (TpAll.dp ds _ h2)
  | .dict _, _, h => by cases h
theorem TpAll.dp {K : PySem.W.Frag} {H : Hp} : ∀ (ds : List PyData) (vs : List V), TpAll H vs ds → DpAll K H vs ds
  | [], _, h => by cases h; exact .nil
  | d :: ds, _, h => by
    cases h with
    | cons h1 h2 => exact .cons (Tp.dp d _ h1) (TpAll.dp ds _ h2)
end
theorem ex_sqT {K : PySem.W.Frag} {H H' : Hp} {a : Addr} {xs : List V} (e : Same H H') (h : SqT K H a xs) : SqT K H' a xs := by
  rcases h with (h | ⟨o, h⟩) | h
  · exact .inl (.inl (e _ _ h))
  · exact .inl (.inr ⟨o, e _ _ h⟩)
  · exact .inr h
mutual
theorem Dp.mono {K : PySem.W.Frag} {H H' : Hp} (k : Same H H') : ∀ (d : PyData) (v : V), Dp K H v d → Dp K H' v d
  | .none, _, h => by cases h; exact .non
  | .bool b, _, h => by cases h; exact .bl b
  | .int i, _, h => by cases h; exact .int i
  | .str x, _, h => by cases h; exact .str x
  | .list ds, _, h => by
    cases h with
    | lst h1 h2 => exact .lst (k.seq h1) (DpAll.mono k ds _ h2)
  | .tuple ds, _, h => by
    cases h with
    | tup h1 h2 => exact .tup (ex_sqT k h1) (DpAll.mono k ds _ h2)
  | .dict _, _, h => by cases h
theorem DpAll.mono {K : PySem.W.Frag} {H H' : Hp} (k : Same H H') : ∀ (ds : List PyData) (vs : List V), DpAll K H vs ds → DpAll K H' vs ds
  | [], _, h => by cases h; exact .nil
  | d :: ds, _, h => by
    cases h with
    | cons h1 h2 => exact .cons (Dp.mono k d _ h1) (DpAll.mono k ds _ h2)
end
theorem DpAll.len {K : PySem.W.Frag} {H : Hp} : ∀ {vs : List V} {ds : List PyData}, DpAll K H vs ds → vs.length = ds.length
  | [], _, h => by cases h; rfl
  | _ :: _, _, h => by
    cases h with
    | cons _ h2 => simp only [List.length_cons, DpAll.len h2]
theorem TpAll.len {H : Hp} : ∀ {vs : List V} {ds : List PyData}, TpAll H vs ds → vs.length = ds.length
  | [], _, h => by cases h; rfl
  | _ :: _, _, h => by
    cases h with
    | cons _ h2 => simp only [List.length_cons, TpAll.len h2]
theorem DpAll.get {K : PySem.W.Frag} {H : Hp} : ∀ {vs : List V} {ds : List PyData} {i : Nat} {v : V}, DpAll K H vs ds → vs[i]? = some v → ∃ d, ds[i]? = some d ∧ Dp K H v d
  | [], _, _, _, h, e => by simp at e
  | _ :: _, _, 0, _, h, e => by
    cases h with
    | cons h1 _ =>
      simp at e
      subst e
      exact ⟨_, rfl, h1⟩
  | _ :: _, _, i + 1, _, h, e => by
    cases h with
    | cons _ h2 =>
      obtain ⟨d, h3, h4⟩ := DpAll.get (i := i) h2 (by simpa using e)
      exact ⟨d, by simpa using h3, h4⟩
theorem DpAll.got {K : PySem.W.Frag} {H : Hp} {vs : List V} {ds : List PyData} {i : Nat} {d : PyData} (h : DpAll K H vs ds) (e : ds[i]? = some d) : ∃ v, vs[i]? = some v ∧ Dp K H v d := by
  have hi : i < vs.length := by
    rw [DpAll.len h]
    exact (List.getElem?_eq_some_iff.mp e).1
  obtain ⟨d', h1, h2⟩ := DpAll.get h (List.getElem?_eq_getElem hi)
  rw [e] at h1
  cases h1
  exact ⟨_, List.getElem?_eq_getElem hi, h2⟩
theorem TpAll.app {H : Hp} : ∀ {vs ws : List V} {ds es : List PyData}, TpAll H vs ds → TpAll H ws es → TpAll H (vs ++ ws) (ds ++ es)
  | [], _, _, _, h, g => by cases h; exact g
  | _ :: _, _, _, _, h, g => by
    cases h with
    | cons h1 h2 => exact .cons h1 (TpAll.app h2 g)
theorem TpAll.ints {H : Hp} : ∀ ns : List Int, TpAll H (ns.map V.int) (ns.map PyData.int)
  | [] => .nil
  | n :: ns => .cons (.int n) (TpAll.ints ns)
theorem TpAll.strs {H : Hp} : ∀ ns : List Str, TpAll H (ns.map V.str) (ns.map PyData.str)
  | [] => .nil
  | n :: ns => .cons (.str n) (TpAll.strs ns)
theorem DpAll.ints {K : PySem.W.Frag} {H : Hp} (ns : List Int) : DpAll K H (ns.map V.int) (ns.map PyData.int) := TpAll.dp _ _ (TpAll.ints ns)

/-- a new tuple -/
theorem tup_new {H : Hp} {xs : List V} {ds : List PyData} {Q : VK} (hT : TpAll H xs ds) (k : ∀ p H', Same H H' → H p = none → H' p = some (.tup xs) → Tp H' (.ref p) (.tuple ds) → Q (.ref p) H') : ∀ p, H p = none → Q (.ref p) (upd H p (.tup xs)) :=
  fun p hp => k p _ (same_new hp) hp upd_same (.tup upd_same (TpAll.mono (KT.of (same_new hp)) _ _ hT))
theorem TpAll.get {H : Hp} : ∀ {vs : List V} {ds : List PyData} {v : V}, TpAll H vs ds → v ∈ vs → ∃ d, d ∈ ds ∧ Tp H v d
  | [], _, _, _, e => by cases e
  | x :: _, _, v, h, e => by
    cases h with
    | cons h1 h2 =>
      rcases List.mem_cons.mp e with e | e
      · subst e
        exact ⟨_, List.mem_cons_self, h1⟩
      · obtain ⟨d, h3, h4⟩ := TpAll.get h2 e
        exact ⟨d, List.mem_cons_of_mem _ h3, h4⟩
theorem TpAll.take {H : Hp} : ∀ {vs : List V} {ds : List PyData} (n : Nat), TpAll H vs ds → TpAll H (vs.take n) (ds.take n)
  | _, _, 0, _ => .nil
  | _, _, _ + 1, .nil => .nil
  | _, _, n + 1, .cons h1 h2 => .cons h1 (TpAll.take n h2)

/-! ### what == takes -/
theorem lay_ints : ∀ ns : List Int, PyData.canLayAll0 (ns.map PyData.int) = true
  | [] => rfl
  | n :: ns => by
    rw [List.map_cons, PyData.canLayAll0, lay_ints ns]
    rfl
theorem dep_ints : ∀ ns : List Int, PyData.depthAll (ns.map PyData.int) = 0
  | [] => rfl
  | n :: ns => by
    rw [List.map_cons, PyData.depthAll, dep_ints ns]
    rfl
theorem shaped_of {d : PyData} (h : d.canLay0 = true) (k : d.depth ≤ 64) : SeqAt.shaped d = true := by
  unfold SeqAt.shaped
  rw [h, decide_eq_true k]
  rfl
theorem shaped_ints (ns : List Int) : SeqAt.shaped (.list (ns.map PyData.int)) = true :=
  shaped_of (by rw [PyData.canLay0]; exact lay_ints ns) (by rw [PyData.depth, dep_ints]; omega)
theorem shaped_nil : SeqAt.shaped (.list []) = true := shaped_ints []
theorem eqvAll_nil : ∀ ds : List PyData, PyData.eqvAll ds [] = ds.isEmpty
  | [] => rfl
  | _ :: _ => rfl
theorem eqv_nil (ds : List PyData) : PyData.eqv (.list ds) (.list []) = ds.isEmpty := by
  rw [PyData.eqv, eqvAll_nil]

/-! ### a module's own dict of texts to ints -/
def keyD (e : DictEntry) : Option Str := match e.key with
  | .str x _ => some x
  | _ => none
def valD (e : DictEntry) : Option Int := match e.val with
  | .int i _ => some i
  | _ => none
def lookM : List (Str × Int) → Str → Option Int
  | [], _ => none
  | (y, i) :: r, x => if y = x then some i else lookM r x
structure KDm (K : PySem.W.Frag) (w : World) (a : Addr) (m : List (Str × Int)) : Prop where
  ex : ∃ es n, K.lookup a = some ⟨.type "dict", none, .dict es n, #[]⟩ ∧ PySem.W.KeysLit w.params es.toList ∧ es.toList.map (fun e => (keyD e, valD e)) = m.map fun p => (some p.1, some p.2)
  low : (a == sysModules) = false
theorem find_dm : ∀ {es : List DictEntry} {m : List (Str × Int)}, es.map (fun e => (keyD e, valD e)) = m.map (fun p => (some p.1, some p.2)) → ∀ x : Str,
    (lookM m x = none → (es.find? fun e => Value.isStrOf x e.key) = none) ∧ ∀ i, lookM m x = some i → ∃ e t, (es.find? fun e => Value.isStrOf x e.key) = some e ∧ e.val = .int i t
  | [], [], _, x => ⟨fun _ => rfl, fun i h => by cases h⟩
  | [], _ :: _, h, _ => by simp at h
  | _ :: _, [], h, _ => by simp at h
  | e :: es, (y, j) :: m, h, x => by
    rw [List.map_cons, List.map_cons] at h
    injection h with h1 h2
    have hk : keyD e = some y := congrArg Prod.fst h1
    have hv : valD e = some j := congrArg Prod.snd h1
    obtain ⟨t, ek⟩ : ∃ t, e.key = .str y t := by
      unfold keyD at hk
      split at hk
      · rename_i z t q
        cases hk
        exact ⟨t, q⟩
      · cases hk
    obtain ⟨t', ev⟩ : ∃ t, e.val = .int j t := by
      unfold valD at hv
      split at hv
      · rename_i z t q
        cases hv
        exact ⟨t, q⟩
      · cases hv
    have hb : Value.isStrOf x e.key = (y == x) := by rw [ek]; rfl
    have ih := find_dm h2 x
    by_cases hx : y = x
    · have hl : lookM ((y, j) :: m) x = some j := by unfold lookM; rw [if_pos hx]
      have hf : (List.find? (fun e => Value.isStrOf x e.key) (e :: es)) = some e := List.find?_cons_of_pos (by rw [hb]; exact beq_iff_eq.mpr hx)
      rw [hl, hf]
      exact ⟨fun q => (nomatch q), fun i q => ⟨e, t', rfl, by rw [← Option.some.inj q]; exact ev⟩⟩
    · have hl : lookM ((y, j) :: m) x = lookM m x := by conv => lhs; unfold lookM; rw [if_neg hx]
      have hf : (List.find? (fun e => Value.isStrOf x e.key) (e :: es)) = List.find? (fun e => Value.isStrOf x e.key) es := List.find?_cons_of_neg (by rw [hb]; exact fun q => hx (beq_iff_eq.mp q))
      rw [hl, hf]
      exact ih
def rInDm (K : PySem.W.Frag) (w : World) (neg : Bool) : R2 := fun x y H Q => ∃ p z m, x = .str z ∧ y = .ref p ∧ KDm K w p m ∧ Q (.bl (if neg then !(lookM m z).isSome else (lookM m z).isSome)) H
def rIxDm (K : PySem.W.Frag) (w : World) : R2 := fun x y H Q => ∃ p z m i, x = .ref p ∧ y = .str z ∧ KDm K w p m ∧ lookM m z = some i ∧ Q (.int i) H
section
variable {X : Cx}
theorem dm_some {K : PySem.W.Frag} {es : Array DictEntry} {m : List (Str × Int)} (h : es.toList.map (fun e => (keyD e, valD e)) = m.map fun p => (some p.1, some p.2)) (z : Str) : (findBy Value.isStrOf es z).isSome = (lookM m z).isSome := by
  have q := find_dm h z
  unfold findBy
  rw [← Array.find?_toList]
  cases e : lookM m z with
  | none => rw [q.1 e]; rfl
  | some i =>
    obtain ⟨d, t, e1, e2⟩ := q.2 i e
    rw [e1]
    rfl
theorem op_inDm : OpR X (compareOp .In) (rInDm X.K X.w false) := by
  intro pins s σ H x y v u Q I rx ry h
  obtain ⟨p, z, m, rfl, rfl, D, q⟩ := h
  obtain ⟨es, n, hl, hk, hm⟩ := D.ex
  obtain rfl : u = Value.ref p := ry
  obtain ⟨t, rfl⟩ := rx
  refine wpAny_in_of (strKind_is X.prog X.w z t) D.low (PySem.W.mapOf_K (prog := X.prog) (w := X.w) I.kIn hl hk) ⟨.bl _, H, I.tok _, rfl, ?_⟩
  rw [dm_some (K := X.K) hm z]
  exact q
theorem op_notInDm : OpR X (compareOp .NotIn) (rInDm X.K X.w true) := by
  intro pins s σ H x y v u Q I rx ry h
  obtain ⟨p, z, m, rfl, rfl, D, q⟩ := h
  obtain ⟨es, n, hl, hk, hm⟩ := D.ex
  obtain rfl : u = Value.ref p := ry
  obtain ⟨t, rfl⟩ := rx
  refine wpAny_notIn_of (strKind_is X.prog X.w z t) D.low (PySem.W.mapOf_K (prog := X.prog) (w := X.w) I.kIn hl hk) ⟨.bl _, H, I.tok _, rfl, ?_⟩
  rw [dm_some (K := X.K) hm z]
  exact q
theorem ix_dm : IxR X (rIxDm X.K X.w) := by
  intro value slice pins s σ H x y v u Q I rx ry h hs
  obtain ⟨p, z, m, i, rfl, rfl, D, e, q⟩ := h
  obtain ⟨es, n, hl, hk, hm⟩ := D.ex
  obtain rfl : v = Value.ref p := rx
  obtain ⟨t, rfl⟩ := ry
  obtain ⟨d, t', e1, e2⟩ := (find_dm hm z).2 i e
  have M := PySem.W.mapOf_K (prog := X.prog) (w := X.w) I.kIn hl hk
  have hf : findBy Value.isStrOf es z = some (.int i t') := by
    unfold findBy
    rw [← Array.find?_toList, e1]
    show some d.val = _
    rw [e2]
  exact tail_any M.typeIs slot_dict_getitem.lookup (wpAny_getItem_of (strKind_is X.prog X.w z t) M hf ⟨.int i, H, I.tok _, ⟨_, rfl⟩, q⟩) hs
theorem OpR.or' {f : Value → Value → Sem Value} {r r' : R2} (h : OpR X f r) (h' : OpR X f r') : OpR X f (fun x y H Q => r x y H Q ∨ r' x y H Q) := by
  intro pins s σ H x y v u Q I rx ry q
  rcases q with q | q
  · exact h pins s σ H x y v u Q I rx ry q
  · exact h' pins s σ H x y v u Q I rx ry q
end

/-! ### what a draw asks for: the script, the state -/
structure En (K : PySem.W.Frag) (a st : Addr) (ns : List Int) (n : Nat) (H : Hp) : Prop where
  sq : ∀ H', Gx st H H' → SqL K H' a (ns.map V.int)
  len : ns.length ≤ 63
  zs : ∃ zs, H st = some (.lst zs) ∧ zs.length ≤ n
  small : n ≤ 100000
section
variable {K : PySem.W.Frag} {a st : Addr} {ns : List Int} {n m : Nat} {H H' : Hp}
theorem En.next (E : En K a st ns n H) (g : Gx st H H') (z : ∃ zs, H' st = some (.lst zs) ∧ zs.length ≤ m) (hm : m ≤ 100000) : En K a st ns m H' :=
  ⟨fun H2 g2 => E.sq H2 (g.trans g2), E.len, z, hm⟩
theorem En.kt (E : En K a st ns n H) (g : Gx st H H') : KT H H' := fun b xs h => by
  obtain ⟨zs, e, _⟩ := E.zs
  exact g b _ (ne_of h e (by intro z; cases z)) h
theorem En.st_ne (E : En K a st ns n H) {p : Addr} (h : H p = none) : p ≠ st := fun e => by
  obtain ⟨zs, q, _⟩ := E.zs
  rw [e, q] at h
  cases h
theorem En.some_ (E : En K a st ns n H) : (H st).isSome := by
  obtain ⟨zs, q, _⟩ := E.zs
  rw [q]
  rfl
theorem En.more (E : En K a st ns n H) (h : n ≤ m) (hm : m ≤ 100000) : En K a st ns m H := E.next (Gx.refl _ _) (by obtain ⟨zs, e, l⟩ := E.zs; exact ⟨zs, e, Nat.le_trans l h⟩) hm
/-- something other than the state is laid or changed -/
theorem En.lay (E : En K a st ns n H) {p : Addr} {o : HO} (h : H p = none) : En K a st ns n (upd H p o) := by
  have hne := E.st_ne h
  exact E.next (Gx.new h) (by obtain ⟨zs, e, l⟩ := E.zs; exact ⟨zs, by rw [upd_ne hne.symm]; exact e, l⟩) E.small
theorem En.sqT {p : Addr} {xs : List V} (E : En K a st ns n H) (g : Gx st H H') (h : SqT K H p xs) : SqT K H' p xs := by
  obtain ⟨zs, e, _⟩ := E.zs
  rcases h with (h | ⟨o, h⟩) | h
  · exact .inl (.inl (g p _ (ne_of h e (by intro z; cases z)) h))
  · exact .inl (.inr ⟨o, g p _ (ne_of h e (by intro z; cases z)) h⟩)
  · exact .inr h
theorem En.lst (E : En K a st ns n H) : SqL K H a (ns.map V.int) := E.sq H (Gx.refl _ _)
end
end Sb

namespace Sb
open PySem PySem.Spec PyProof.Rows L2
/-! ### what kind a datum is -/
def tyD : PyData → String
  | .none => "NoneType"
  | .bool _ => "bool"
  | .int _ => "int"
  | .str _ => "str"
  | .list _ => "list"
  | .tuple _ => "tuple"
  | .dict _ => "dict"
def isInt : PyData → Bool
  | .int _ => true
  | .bool _ => true
  | _ => false
def isBool : PyData → Bool
  | .bool _ => true
  | _ => false
def isStr : PyData → Bool
  | .str _ => true
  | _ => false
def isTup : PyData → Bool
  | .tuple _ => true
  | _ => false
theorem kit_int (K : PySem.W.Frag) : ∀ d, PySem.W.kitOne K (.type (tyD d)) (.type "int") = some (isInt d)
  | .none => kit_ty (by show kitB "NoneType" "int" = some false; decide +kernel)
  | .bool _ => kit_ty (by show kitB "bool" "int" = some true; decide +kernel)
  | .int _ => kit_ty (by show kitB "int" "int" = some true; decide +kernel)
  | .str _ => kit_ty (by show kitB "str" "int" = some false; decide +kernel)
  | .list _ => kit_ty (by show kitB "list" "int" = some false; decide +kernel)
  | .tuple _ => kit_ty (by show kitB "tuple" "int" = some false; decide +kernel)
  | .dict _ => kit_ty (by show kitB "dict" "int" = some false; decide +kernel)
theorem kit_bool (K : PySem.W.Frag) : ∀ d, PySem.W.kitOne K (.type (tyD d)) (.type "bool") = some (isBool d)
  | .none => kit_ty (by show kitB "NoneType" "bool" = some false; decide +kernel)
  | .bool _ => kit_ty (by show kitB "bool" "bool" = some true; decide +kernel)
  | .int _ => kit_ty (by show kitB "int" "bool" = some false; decide +kernel)
  | .str _ => kit_ty (by show kitB "str" "bool" = some false; decide +kernel)
  | .list _ => kit_ty (by show kitB "list" "bool" = some false; decide +kernel)
  | .tuple _ => kit_ty (by show kitB "tuple" "bool" = some false; decide +kernel)
  | .dict _ => kit_ty (by show kitB "dict" "bool" = some false; decide +kernel)
theorem kit_str (K : PySem.W.Frag) : ∀ d, PySem.W.kitOne K (.type (tyD d)) (.type "str") = some (isStr d)
  | .none => kit_ty (by show kitB "NoneType" "str" = some false; decide +kernel)
  | .bool _ => kit_ty (by show kitB "bool" "str" = some false; decide +kernel)
  | .int _ => kit_ty (by show kitB "int" "str" = some false; decide +kernel)
  | .str _ => kit_ty (by show kitB "str" "str" = some true; decide +kernel)
  | .list _ => kit_ty (by show kitB "list" "str" = some false; decide +kernel)
  | .tuple _ => kit_ty (by show kitB "tuple" "str" = some false; decide +kernel)
  | .dict _ => kit_ty (by show kitB "dict" "str" = some false; decide +kernel)
theorem kit_tup (K : PySem.W.Frag) : ∀ d, PySem.W.kitOne K (.type (tyD d)) (.type "tuple") = some (isTup d)
  | .none => kit_ty (by show kitB "NoneType" "tuple" = some false; decide +kernel)
  | .bool _ => kit_ty (by show kitB "bool" "tuple" = some false; decide +kernel)
  | .int _ => kit_ty (by show kitB "int" "tuple" = some false; decide +kernel)
  | .str _ => kit_ty (by show kitB "str" "tuple" = some false; decide +kernel)
  | .list _ => kit_ty (by show kitB "list" "tuple" = some false; decide +kernel)
  | .tuple _ => kit_ty (by show kitB "tuple" "tuple" = some true; decide +kernel)
  | .dict _ => kit_ty (by show kitB "dict" "tuple" = some false; decide +kernel)
theorem sqL_ty {K : PySem.W.Frag} {H : Hp} {a : Addr} {xs : List V} (h : SqL K H a xs) : TyX K H (.ref a) (.type "list") := by
  rcases h with (h | ⟨o, h⟩) | ⟨o, its, n, h, c, _⟩
  · exact .base (.lst h)
  · exact .base (.frz h)
  · exact .kList h c
theorem sqT_ty {K : PySem.W.Frag} {H : Hp} {a : Addr} {xs : List V} (h : SqT K H a xs) : TyX K H (.ref a) (.type "tuple") := by
  rcases h with (h | ⟨o, h⟩) | ⟨o, its, n, h, c, _⟩
  · exact .base (.tup h)
  · exact .fTuple h
  · exact .kTuple h c
theorem dp_ty {K : PySem.W.Frag} {H : Hp} {v : V} {d : PyData} (h : Dp K H v d) : TyX K H v (.type (tyD d)) := by
  cases h with
  | non => exact .base .non
  | bl b => exact .base (.bl b)
  | int i => exact .base (.int i)
  | str x => exact .base (.str x)
  | lst hs _ => exact sqL_ty hs
  | tup hs _ => exact sqT_ty hs

/-! ### texts of some size within a datum -/
mutual
def smD : PyData → Bool
  | .str x => decide (x.length ≤ 100000)
  | .list xs => smDs xs
  | .tuple xs => smDs xs
  | .none => true
  | .bool _ => true
  | .int _ => true
  | .dict _ => true
def smDs : List PyData → Bool
  | [] => true
  | x :: xs => smD x && smDs xs
end
theorem smDs_get : ∀ {ds : List PyData} {i : Nat} {d : PyData}, smDs ds = true → ds[i]? = some d → smD d = true
  | [], _, _, _, e => by simp at e
  | x :: xs, 0, _, h, e => by
    rw [smDs, Bool.and_eq_true] at h
    simp at e
    rw [← e]
    exact h.1
  | x :: xs, i + 1, _, h, e => by
    rw [smDs, Bool.and_eq_true] at h
    exact smDs_get h.2 (by simpa using e)

/-! ### the program's answers -/
def numD : PyData → Int → Int → Bool
  | .int i, lo, hi => decide (lo ≤ i) && decide (i ≤ hi)
  | _, _, _ => false
def tupD : PyData → Int → Int → Bool
  | .tuple ds, lo, hi => decide (lo ≤ (ds.length : Int)) && decide ((ds.length : Int) ≤ hi)
  | _, _, _ => false
def letterOk (c : Nat) : Bool := decide (97 ≤ c) && decide (c ≤ 122)
def textD : PyData → Int → Bool
  | .str z, n => decide ((z.length : Int) ≤ n) && z.cps.toList.all letterOk
  | _, _ => false
def ltD : PyData → PyData → Bool
  | .int i, .int j => decide (i < j)
  | .str x, .str y => decide (x.cps.toList < y.cps.toList)
  | .tuple [.str x, .int i, .int j], .tuple [.str y, .int k, .int l] => decide (x.cps.toList < y.cps.toList) || (decide (x = y) && (decide (i < k) || (decide (i = k) && decide (j < l))))
  | _, _ => false
def ascD : List PyData → Bool
  | x :: y :: r => ltD x y && ascD (y :: r)
  | _ => true
def seqD : PyData → List PyData
  | .tuple ds => ds
  | _ => []
def thingD (d : PyData) : Bool := tupD d 1 4 && (seqD d).all (fun x => textD x 4) && ascD (seqD d)
def prodD : List PyData → Nat
  | [] => 1
  | d :: r => (seqD d).length * prodD r
def thingsD (d : PyData) : Bool := tupD d 1 5 && (seqD d).all thingD && decide (prodD (seqD d) ≤ 256)
def readingD : PyData → Int → Int → Bool
  | .tuple [.str w, d], m, s => if w = "thing" then numD d 0 (m - 1) else decide (w = ("step" : Str)) && numD d 0 (s - 1)
  | _, _, _ => false
def mREADINGS' : List (Str × Int) := [("join", 2), ("sort", 1), ("turn", 1), ("first", 1), ("rest", 1), ("less", 2), ("same", 2), ("pick", 3)]
def stepD : PyData → Int → Int → Bool
  | .tuple [.str o, rs], m, s => match lookM mREADINGS' o with
    | some k => tupD rs k k && (seqD rs).all (fun x => readingD x m s)
    | none => false
  | _, _, _ => false
def stepsAllD : List PyData → Int → Nat → Bool
  | [], _, _ => true
  | d :: r, m, s => stepD d m (s : Int) && stepsAllD r m (s + 1)
def stepsD (d : PyData) (m : Int) : Bool := tupD d 1 8 && stepsAllD (seqD d) m 0
def madeD (d : PyData) (s : Int) : Bool := tupD d 1 3 && (seqD d).all (fun x => numD x 0 (s - 1)) && ascD (seqD d)
def recipeD : PyData → Bool
  | .tuple [t, s, m] => thingsD t && (stepsD s ((seqD t).length : Int) && madeD m ((seqD s).length : Int))
  | _ => false
end Sb

namespace Sb
open PySem PySem.Spec PyProof.Rows L2
/-! ### >= of data of one kind: ints, texts, acts -/
def cmpOk : PyData → PyData → Prop
  | .int _, .int _ => True
  | .str _, .str _ => True
  | .tuple [.str _, .int _, .int _], .tuple [.str _, .int _, .int _] => True
  | _, _ => False
theorem al_int (i j : Int) : PySem.W.alike (.int i) (.int j) = true := rfl
theorem al_str (x y : Str) : PySem.W.alike (.str x) (.str y) = true := rfl
theorem ne_int {i j : Int} (h : i ≠ j) : PyData.eqv (.int i) (.int j) = false := by
  show (i == j) = false
  exact beq_false_of_ne h
theorem ne_strD {x y : Str} (h : x ≠ y) : PyData.eqv (.str x) (.str y) = false := by
  show (x == y) = false
  exact beq_false_of_ne h
theorem lt_last (i j : Int) : PySem.W.dataLt (.tuple [.int i]) (.tuple [.int j]) = decide (i < j) := by
  by_cases h : i = j
  · subst h
    rw [PySem.W.dataLt_tuple, PySem.W.dataLt_all_yes (al_int i i) (PySem.W.eqv_refl_alike (.int i) rfl), decide_eq_false (Int.lt_irrefl _)]
    decide +kernel
  · rw [PySem.W.dataLt_tuple, PySem.W.dataLt_all_no (al_int i j) (ne_int h), PySem.W.dataLt_int]
theorem lt_act (x y : Str) (i j k l : Int) : PySem.W.dataLt (.tuple [.str x, .int i, .int j]) (.tuple [.str y, .int k, .int l]) = ltD (.tuple [.str x, .int i, .int j]) (.tuple [.str y, .int k, .int l]) := by
  show _ = (decide (x.cps.toList < y.cps.toList) || (decide (x = y) && (decide (i < k) || (decide (i = k) && decide (j < l)))))
  rw [PySem.W.dataLt_tuple]
  by_cases h : x = y
  · subst h
    rw [PySem.W.dataLt_all_yes (al_str x x) (PySem.W.eqv_refl_alike (.str x) rfl), decide_eq_false (List.lt_irrefl _), decide_eq_true rfl, Bool.false_or, Bool.true_and]
    by_cases g : i = k
    · subst g
      rw [PySem.W.dataLt_all_yes (al_int i i) (PySem.W.eqv_refl_alike (.int i) rfl), ← PySem.W.dataLt_tuple, lt_last, decide_eq_false (Int.lt_irrefl _), decide_eq_true rfl, Bool.false_or, Bool.true_and]
    · rw [PySem.W.dataLt_all_no (al_int i k) (ne_int g), PySem.W.dataLt_int, decide_eq_false g, Bool.false_and, Bool.or_false]
  · rw [PySem.W.dataLt_all_no (al_str x y) (ne_strD h), PySem.W.dataLt_str, decide_eq_false h, Bool.false_and, Bool.or_false]
theorem cmp_data : ∀ {d e : PyData}, cmpOk d e → PySem.W.alike d e = true ∧ d ≠ .none ∧ d.depth ≤ 1 ∧ PySem.W.dataLt d e = ltD d e
  | .int i, .int j, _ => ⟨rfl, nofun, Nat.zero_le _, PySem.W.dataLt_int i j⟩
  | .str x, .str y, _ => ⟨rfl, nofun, Nat.zero_le _, PySem.W.dataLt_str x y⟩
  | .tuple [.str x, .int i, .int j], .tuple [.str y, .int k, .int l], _ => ⟨rfl, nofun, Nat.le_refl 1, lt_act x y i j k l⟩
def rGeV (K : PySem.W.Frag) : R2 := fun x y H Q => ∃ d e, Dp K H x d ∧ Dp K H y e ∧ cmpOk d e ∧ Q (.bl (!ltD d e)) H
theorem op_geV {X : Cx} (hu : X.A.units + 64 < cLine) : OpR X (compareOp .GtE) (rGeV X.K) := by
  intro pins s σ H x y v u Q I rx ry ⟨d, e, hd, he, hc, q⟩
  obtain ⟨as, r1⟩ := Dp.reads I d x v hd rx
  obtain ⟨bs, r2⟩ := Dp.reads I e y u he ry
  obtain ⟨c1, c2, c3, c4⟩ := cmp_data hc
  refine PySem.W.ge_data r1 r2 c1 c2 (by have : min d.depth e.depth ≤ d.depth := Nat.min_le_left _ _; omega) ?_
  rw [c4]
  exact ⟨.bl _, H, I, rfl, q⟩
/-! ### x in a tuple of data -/
def rInT (K : PySem.W.Frag) : R2 := fun x y H Q => ∃ d ds, Dp K H x d ∧ Dp K H y (.tuple ds) ∧ SeqAt.shaped d = true ∧ PyData.canLayAll0 ds = true ∧ Q (.bl (ds.any fun z => PyData.eqv z d)) H
theorem op_inT {X : Cx} (hu : X.A.units + 65 < cLine) : OpR X (compareOp .In) (rInT X.K) := by
  intro pins s σ H x y v u Q I rx ry ⟨d, ds, hd, he, sd, se, q⟩
  obtain ⟨as, r1⟩ := Dp.reads I d x v hd rx
  obtain ⟨bs, r2⟩ := Dp.reads I (.tuple ds) y u he ry
  exact SeqAt.in_tuple_reads r2 r1 se (SeqAt.canLay_of_shaped sd) (room_in_shaped sd hu) ⟨.bl _, H, I, rfl, q⟩
theorem units65 {k : Nat} {A : Around} (r : Room k A) : A.units + 65 < cLine := by have := r.un; omega
theorem asc_of : ∀ {ds : List PyData}, (∀ (j : Nat) (x y : PyData), ds[j]? = some x → ds[j + 1]? = some y → ltD x y = true) → ascD ds = true
  | [], _ => rfl
  | [_], _ => rfl
  | x :: y :: r, h => by
    rw [ascD, h 0 x y rfl rfl, asc_of (ds := y :: r) fun j a b ea eb => h (j + 1) a b ea eb]
    rfl
theorem asc_at : ∀ {ds : List PyData} {j : Nat} {x y : PyData}, ascD ds = true → ds[j]? = some x → ds[j + 1]? = some y → ltD x y = true
  | [], _, _, _, _, e, _ => by simp at e
  | [_], 0, _, _, _, _, e => by simp at e
  | [_], j + 1, _, _, _, e, _ => by simp at e
  | a :: b :: r, 0, x, y, h, e1, e2 => by
    rw [ascD, Bool.and_eq_true] at h
    cases e1
    cases e2
    exact h.1
  | a :: b :: r, j + 1, x, y, h, e1, e2 => by
    rw [ascD, Bool.and_eq_true] at h
    exact asc_at (ds := b :: r) h.2 e1 e2
theorem asc_not {ds : List PyData} {j : Nat} {x y : PyData} (e1 : ds[j]? = some x) (e2 : ds[j + 1]? = some y) (h : ltD x y = false) : ascD ds = false := by
  cases q : ascD ds with
  | false => rfl
  | true => rw [asc_at q e1 e2] at h; cases h
end Sb

/-! Sb, evaluation over data: I the part of the heap that nobody changes (all tuples, the lists that stay); what an expression evaluates to, as data. -/
namespace Sb
open PySem PySem.Spec PyProof.Rows L2

structure Im (I H : Hp) : Prop where
  sub : Same I H
  tup : ∀ b xs, H b = some (.tup xs) → I b = some (.tup xs)
structure Ext (I H I' H' : Hp) : Prop where
  im : Im I' H'
  ii : Same I I'
  hh : Same H H'
  old : ∀ b o, H b = some o → I' b = I b
theorem Ext.refl {I H : Hp} (m : Im I H) : Ext I H I H := ⟨m, Same.refl _, Same.refl _, fun _ _ _ => rfl⟩
theorem Ext.trans {I H I1 H1 I2 H2 : Hp} (a : Ext I H I1 H1) (b : Ext I1 H1 I2 H2) : Ext I H I2 H2 :=
  ⟨b.im, a.ii.trans b.ii, a.hh.trans b.hh, fun c o e => (b.old c o (a.hh c o e)).trans (a.old c o e)⟩
/-- a new object that stays -/
theorem Ext.lay {I H : Hp} {p : Addr} {o : HO} (m : Im I H) (hp : H p = none) : Ext I H (upd I p o) (upd H p o) := by
  have ip : I p = none := m.sub.free hp
  refine ⟨⟨fun b x e => ?_, fun b xs e => ?_⟩, same_new ip, same_new hp, fun b x e => ?_⟩
  · by_cases h : b = p
    · subst h
      rw [upd_same] at e ⊢
      exact e
    · rw [upd_ne h] at e ⊢
      exact m.sub _ _ e
  · by_cases h : b = p
    · subst h
      rw [upd_same] at e ⊢
      exact e
    · rw [upd_ne h] at e ⊢
      exact m.tup _ _ e
  · rw [upd_ne (ne_of_none e hp)]
/-- a new list that will change -/
theorem Ext.cell {I H : Hp} {p : Addr} {xs : List V} (m : Im I H) (hp : H p = none) : Ext I H I (upd H p (.lst xs)) := by
  refine ⟨⟨fun b x e => same_new hp _ _ (m.sub _ _ e), fun b ys e => ?_⟩, Same.refl _, same_new hp, fun _ _ _ => rfl⟩
  by_cases h : b = p
  · subst h
    rw [upd_same] at e
    cases e
  · rw [upd_ne h] at e
    exact m.tup _ _ e
/-- a cell is changed -/
theorem Im.put {I H : Hp} {p : Addr} {xs : List V} (m : Im I H) (ip : I p = none) : Im I (upd H p (.lst xs)) := by
  refine ⟨fun b x e => ?_, fun b ys e => ?_⟩
  · rw [upd_ne (ne_of_none e ip)]
    exact m.sub _ _ e
  · by_cases h : b = p
    · subst h
      rw [upd_same] at e
      cases e
    · rw [upd_ne h] at e
      exact m.tup _ _ e
/-- behind a call that changes the state alone -/
def imOf (I H H' : Hp) : Hp := fun b => match H b with
  | none => H' b
  | some _ => I b
theorem im_call {I H H' : Hp} {st : Addr} (m : Im I H) (g : Gx st H H') (is : I st = none) (hs : ∃ zs, H st = some (.lst zs)) (hs' : ∃ zs, H' st = some (.lst zs)) :
    Im (imOf I H H') H' ∧ Same I (imOf I H H') ∧ ∀ b o, H b = some o → imOf I H H' b = I b := by
  have old : ∀ b o, H b = some o → imOf I H H' b = I b := fun b o e => by unfold imOf; rw [e]
  have ii : Same I (imOf I H H') := fun b o e => by
    rw [old b o (m.sub _ _ e)]
    exact e
  refine ⟨⟨fun b o e => ?_, fun b xs e => ?_⟩, ii, old⟩
  · cases q : H b with
    | none => unfold imOf at e; rw [q] at e; exact e
    | some x =>
      rw [old b x q] at e
      have : b ≠ st := ne_of_none e is
      have e2 := m.sub _ _ e
      exact g b o this e2
  · cases q : H b with
    | none => unfold imOf; rw [q]; exact e
    | some x =>
      have hb : b ≠ st := fun z => by
        obtain ⟨zs, hz⟩ := hs'
        rw [z, hz] at e
        cases e
      have e2 := g b x hb q
      rw [e] at e2
      cases e2
      rw [old b _ q]
      exact m.tup _ _ q
mutual
theorem Tp.im {K : PySem.W.Frag} {I H : Hp} (m : Im I H) : ∀ (d : PyData) (v : V), Tp H v d → Dp K I v d
  | .none, _, h => by cases h; exact .non
  | .bool b, _, h => by cases h; exact .bl b
  | .int i, _, h => by cases h; exact .int i
  | .str x, _, h => by cases h; exact .str x
  | .list _, _, h => by cases h
  | .tuple ds, _, h => by
    cases h with
    | tup h1 h2 => exact .tup (.inl (.inl (m.tup _ _ h1))) (TpAll.im m ds _ h2)
  | .dict _, _, h => by cases h
theorem TpAll.im {K : PySem.W.Frag} {I H : Hp} (m : Im I H) : ∀ (ds : List PyData) (vs : List V), TpAll H vs ds → DpAll K I vs ds
  | [], _, h => by cases h; exact .nil
  | d :: ds, _, h => by
    cases h with
    | cons h1 h2 => exact .cons (Tp.im m d _ h1) (TpAll.im m ds _ h2)
end

/-! ### what an expression evaluates to -/
def EvD (K : PySem.W.Frag) (te : TE) (σ : L2.St) (I : Hp) (d : PyData) : Prop := ∀ I1 H1, Same I I1 → Im I1 H1 → ∀ Q : VK, (∀ v I2 H2, Ext I1 H1 I2 H2 → Dp K I2 v d → Q v H2) → te σ H1 Q
def EvDs (K : PySem.W.Frag) (ta : TA) (σ : L2.St) (I : Hp) (ds : List PyData) : Prop := ∀ I1 H1, Same I I1 → Im I1 H1 → ∀ Q : List V → Hp → Prop, (∀ vs I2 H2, Ext I1 H1 I2 H2 → DpAll K I2 vs ds → Q vs H2) → ta σ H1 Q
/-- a new list that may be changed later -/
def EvC (K : PySem.W.Frag) (te : TE) (σ : L2.St) (I : Hp) (ds : List PyData) : Prop := ∀ I1 H1, Same I I1 → Im I1 H1 → ∀ Q : VK, (∀ p vs I2 H2, Ext I1 H1 I2 H2 → H1 p = none → I2 p = none → H2 p = some (.lst vs) → DpAll K I2 vs ds → Q (.ref p) H2) → te σ H1 Q
def EvB (K : PySem.W.Frag) (tt : TT) (σ : L2.St) (I : Hp) (b : Bool) : Prop := ∀ I1 H1, Same I I1 → Im I1 H1 → ∀ Q : Bool → Hp → Prop, (∀ I2 H2, Ext I1 H1 I2 H2 → Q b H2) → tt σ H1 Q
def EvO (K : PySem.W.Frag) (to : TO) (σ : L2.St) (I : Hp) (o : Option Int) : Prop := ∀ I1 H1, Same I I1 → Im I1 H1 → ∀ Q : Option Int → Hp → Prop, (∀ I2 H2, Ext I1 H1 I2 H2 → Q o H2) → to σ H1 Q
def RD (K : PySem.W.Frag) (r : R2) (a b d : PyData) : Prop := ∀ I H x y, Im I H → Dp K I x a → Dp K I y b → ∀ Q : VK, (∀ v I' H', Ext I H I' H' → Dp K I' v d → Q v H') → r x y H Q
def CD (K : PySem.W.Frag) (r : List V → Hp → VK → Prop) (ds : List PyData) (d : PyData) : Prop := ∀ I H vs, Im I H → DpAll K I vs ds → ∀ Q : VK, (∀ v I' H', Ext I H I' H' → Dp K I' v d → Q v H') → r vs H Q
def SpD (K : PySem.W.Frag) (sp : Sp) (ds : List PyData) (d : PyData) : Prop := ∀ I H vs, Im I H → DpAll K I vs ds → ∀ (Q : VK) (E : XK), (∀ v I' H', Ext I H I' H' → Dp K I' v d → Q v H') → sp vs H Q E
section
variable {K : PySem.W.Frag} {σ : L2.St} {I I0 H : Hp} {ta tb te : TE} {t u : TT} {a b d : PyData} {ds xs ys : List PyData} {r : R2}
theorem EvD.mono (h : EvD K te σ I0 d) (s : Same I0 I) : EvD K te σ I d := fun I1 H1 s1 m Q q => h I1 H1 (s.trans s1) m Q q
theorem EvDs.mono {ta : TA} (h : EvDs K ta σ I0 ds) (s : Same I0 I) : EvDs K ta σ I ds := fun I1 H1 s1 m Q q => h I1 H1 (s.trans s1) m Q q
theorem EvD.is {e : PyData} (h : EvD K te σ I d) (q : d = e) : EvD K te σ I e := by rw [← q]; exact h
theorem evd_var {i : Nat} {v : V} (h : σ[i]? = some (some v)) (hd : Dp K I v d) : EvD K (tVar i) σ I d := fun I1 H1 s m Q q => ⟨v, h, q v I1 H1 (.refl m) (Dp.mono s _ _ hd)⟩
theorem evd_int {i : Int} : EvD K (tC (.int i)) σ I (.int i) := fun I1 H1 s m Q q => q _ I1 H1 (.refl m) (.int i)
theorem evd_str {x : Str} : EvD K (tC (.str x)) σ I (.str x) := fun I1 H1 s m Q q => q _ I1 H1 (.refl m) (.str x)
theorem evd_bl {x : Bool} : EvD K (tC (.bl x)) σ I (.bool x) := fun I1 H1 s m Q q => q _ I1 H1 (.refl m) (.bl x)
theorem evd_non : EvD K (tC .non) σ I .none := fun I1 H1 s m Q q => q _ I1 H1 (.refl m) .non
theorem evds_nil : EvDs K tNil σ I [] := fun I1 H1 s m Q q => q [] I1 H1 (.refl m) .nil
theorem evds_cons {tr : TA} (h : EvD K te σ I d) (hr : EvDs K tr σ I ds) : EvDs K (tCons te tr) σ I (d :: ds) := fun I1 H1 s m Q q =>
  h I1 H1 s m _ fun v I2 H2 e1 k1 => hr I2 H2 (s.trans e1.ii) e1.im _ fun vs I3 H3 e2 k2 => q _ I3 H3 (e1.trans e2) (.cons (Dp.mono e2.ii _ _ k1) k2)
theorem evd_tup {tr : TA} (h : EvDs K tr σ I ds) (hl : ds.length ≤ 100000) : EvD K (tTup tr) σ I (.tuple ds) := fun I1 H1 s m Q q =>
  h I1 H1 s m _ fun vs I2 H2 e k => ⟨by rw [DpAll.len k]; exact Nat.le_trans hl (by decide), fun p hp => q _ _ _ (e.trans (Ext.lay e.im hp)) (.tup (.inl (.inl upd_same)) (DpAll.mono (same_new (e.im.sub.free hp)) _ _ k))⟩
theorem evd_lst {tr : TA} (h : EvDs K tr σ I ds) (hl : ds.length ≤ 100000) : EvD K (tLst tr) σ I (.list ds) := fun I1 H1 s m Q q =>
  h I1 H1 s m _ fun vs I2 H2 e k => ⟨by rw [DpAll.len k]; exact Nat.le_trans hl (by decide), fun p hp => q _ _ _ (e.trans (Ext.lay e.im hp)) (.lst (.inl (.inl upd_same)) (DpAll.mono (same_new (e.im.sub.free hp)) _ _ k))⟩
theorem evc_lst {tr : TA} (h : EvDs K tr σ I ds) (hl : ds.length ≤ 100000) : EvC K (tLst tr) σ I ds := fun I1 H1 s m Q q =>
  h I1 H1 s m _ fun vs I2 H2 e k => ⟨by rw [DpAll.len k]; exact Nat.le_trans hl (by decide), fun p hp => q p vs I2 _ (e.trans (Ext.cell e.im hp)) (e.hh.free hp) (e.im.sub.free hp) upd_same k⟩
theorem evd_op (h1 : EvD K ta σ I a) (h2 : EvD K tb σ I b) (hr : RD K r a b d) : EvD K (tOp r ta tb) σ I d := fun I1 H1 s m Q q =>
  h1 I1 H1 s m _ fun v I2 H2 e1 k1 => h2 I2 H2 (s.trans e1.ii) e1.im _ fun w I3 H3 e2 k2 => hr I3 H3 v w e2.im (Dp.mono e2.ii _ _ k1) k2 Q fun z I4 H4 e3 k3 => q z I4 H4 ((e1.trans e2).trans e3) k3
theorem evd_cb {f : List V → Hp → VK → Prop} {tr : TA} (h : EvDs K tr σ I ds) (hr : CD K f ds d) : EvD K (tCB f tr) σ I d := fun I1 H1 s m Q q =>
  h I1 H1 s m _ fun vs I2 H2 e k => hr I2 H2 vs e.im k Q fun z I4 H4 e3 k3 => q z I4 H4 (e.trans e3) k3
theorem evd_call {sp : Sp} {E : XK} {tr : TA} (h : EvDs K tr σ I ds) (hr : SpD K sp ds d) : EvD K (tCall sp [] E tr) σ I d := fun I1 H1 s m Q q =>
  h I1 H1 s m _ fun vs I2 H2 e k => by
    rw [List.append_nil]
    exact hr I2 H2 vs e.im k Q E fun z I4 H4 e3 k3 => q z I4 H4 (e.trans e3) k3
theorem evo_none : EvO K tNoPart σ I none := fun I1 H1 s m Q q => q I1 H1 (.refl m)
theorem evo_some {i : Int} (h : EvD K te σ I (.int i)) : EvO K (tPart te) σ I (some i) := fun I1 H1 s m Q q =>
  h I1 H1 s m _ fun v I2 H2 e k => by
    cases k
    exact ⟨i, rfl, q I2 H2 e⟩
/-- the part of a list between two places -/
def cutD (xs : List PyData) (lo hi : Option Int) : List PyData := (xs.drop (HT.sIx xs.length 0 lo)).take (HT.sIx xs.length xs.length hi - HT.sIx xs.length 0 lo)
theorem DpAll.drop {vs : List V} (n : Nat) (h : DpAll K H vs ds) : DpAll K H (vs.drop n) (ds.drop n) := by
  induction n generalizing vs ds with
  | zero => exact h
  | succ n ih =>
    cases h with
    | nil => exact .nil
    | cons h1 h2 => exact ih h2
theorem DpAll.take {vs : List V} (n : Nat) (h : DpAll K H vs ds) : DpAll K H (vs.take n) (ds.take n) := by
  induction n generalizing vs ds with
  | zero => exact .nil
  | succ n ih =>
    cases h with
    | nil => exact .nil
    | cons h1 h2 => exact .cons h1 (ih h2)
theorem DpAll.app {vs ws : List V} (h : DpAll K H vs xs) (g : DpAll K H ws ys) : DpAll K H (vs ++ ws) (xs ++ ys) := by
  induction vs generalizing xs with
  | nil =>
    cases h
    exact g
  | cons v vs ih =>
    cases h with
    | cons h1 h2 => exact .cons h1 (ih h2)
theorem DpAll.cut {vs : List V} (h : DpAll K H vs ds) (lo hi : Option Int) : DpAll K H (cutV vs lo hi) (cutD ds lo hi) := by
  unfold cutV cutD
  rw [DpAll.len h]
  exact DpAll.take _ (DpAll.drop _ h)
theorem evd_slT {tl th : TO} {lo hi : Option Int} (h : EvD K te σ I (.tuple ds)) (h1 : EvO K tl σ I lo) (h2 : EvO K th σ I hi) : EvD K (tSl (rSlA K) te tl th) σ I (.tuple (cutD ds lo hi)) := fun I1 H1 s m Q q =>
  h I1 H1 s m _ fun v I2 H2 e1 k1 => h1 I2 H2 (s.trans e1.ii) e1.im _ fun I3 H3 e2 => h2 I3 H3 ((s.trans e1.ii).trans e2.ii) e2.im _ fun I4 H4 e3 => by
    have e := (e1.trans e2).trans e3
    have k := Dp.mono (e2.trans e3).ii _ _ k1
    cases k with
    | tup hs ha =>
      rename_i a xs
      refine ⟨a, xs, rfl, ex_sqT e.im.sub hs, fun hw => ?_, fun _ p hp => ?_⟩
      · have ec : cutD ds lo hi = ds := by
          unfold cutD
          rw [← DpAll.len ha, hw.1, hw.2]
          rw [List.drop_zero, DpAll.len ha]
          exact List.take_of_length_le (by omega)
        rw [ec] at q
        exact q _ I4 H4 e (.tup hs ha)
      · exact q _ _ _ (e.trans (Ext.lay e.im hp)) (.tup (.inl (.inl upd_same)) (DpAll.mono (same_new (e.im.sub.free hp)) _ _ (DpAll.cut ha lo hi)))
/-! operators -/
theorem rd_I0 {g : Int → Int → V} {i j : Int} {d : PyData} (hg : ∀ H, Dp K H (g i j) d) : RD K (rI0 g) (.int i) (.int j) d := fun I H x y m hx hy Q q => by
  cases hx
  cases hy
  exact ⟨i, j, rfl, rfl, q _ I H (.refl m) (hg _)⟩
theorem rd_cat (hl : xs.length + ys.length ≤ 100000) : RD K (rCatA K) (.tuple xs) (.tuple ys) (.tuple (xs ++ ys)) := fun I H x y m hx hy Q q => by
  cases hx with
  | tup h1 k1 =>
    cases hy with
    | tup h2 k2 =>
      rename_i a vs b ws
      refine ⟨a, b, vs, ws, rfl, rfl, ex_sqT m.sub h1, ex_sqT m.sub h2, ?_, fun e => ?_, fun _ e => ?_, fun _ _ p hp => ?_⟩
      · rw [DpAll.len k1, DpAll.len k2]
        exact Nat.le_trans hl (by decide)
      · subst e
        cases k1
        exact q _ I H (.refl m) (.tup h2 k2)
      · subst e
        cases k2
        rw [List.append_nil] at q
        exact q _ I H (.refl m) (.tup h1 k1)
      · exact q _ _ _ (Ext.lay m hp) (.tup (.inl (.inl upd_same)) (DpAll.mono (same_new (m.sub.free hp)) _ _ (DpAll.app k1 k2)))
def repD (k : Nat) (xs : List PyData) : List PyData := (List.replicate k xs).flatten
theorem DpAll.rep {vs : List V} (h : DpAll K H vs ds) : ∀ k : Nat, DpAll K H (List.replicate k vs).flatten (repD k ds)
  | 0 => .nil
  | k + 1 => by
    unfold repD
    rw [List.replicate_succ, List.replicate_succ, List.flatten_cons, List.flatten_cons]
    exact DpAll.app h (DpAll.rep h k)
theorem rd_rep {k : Int} (h2 : 2 ≤ k) (hk : k ≤ 1000) (hn : xs ≠ []) (hl : xs.length ≤ 1000) : RD K (rRepT K) (.tuple xs) (.int k) (.tuple (repD k.toNat xs)) := fun I H x y m hx hy Q q => by
  cases hx with
  | tup h1 k1 =>
    cases hy
    rename_i a vs
    refine ⟨a, k, vs, rfl, rfl, ex_sqT m.sub h1, fun e => ?_, h2, hk, by rw [DpAll.len k1]; exact hl, fun p hp => ?_⟩
    · subst e
      cases k1
      exact hn rfl
    · exact q _ _ _ (Ext.lay m hp) (.tup (.inl (.inl upd_same)) (DpAll.mono (same_new (m.sub.free hp)) _ _ (DpAll.rep k1 k.toNat)))
theorem rd_rep' {k : Int} (h2 : 2 ≤ k) (hk : k ≤ 1000) (hn : xs ≠ []) (hl : xs.length ≤ 1000) (hd : d = .tuple (repD k.toNat xs)) : RD K (rRepT K) (.tuple xs) (.int k) d := by
  subst hd
  exact rd_rep h2 hk hn hl
theorem rd_ixT {i : Nat} (e : xs[i]? = some d) : RD K (rIxT K) (.tuple xs) (.int (i : Int)) d := fun I H x y m hx hy Q q => by
  cases hx with
  | tup h1 k1 =>
    cases hy
    rename_i a vs
    obtain ⟨v, ev, kv⟩ := DpAll.got k1 e
    exact ⟨a, vs, (i : Int), v, rfl, rfl, ex_sqT m.sub h1, atI_nat ev, q _ I H (.refl m) kv⟩
theorem rd_isB {x y : Bool} : RD K rIsB (.bool x) (.bool y) (.bool (decide (x = y))) := fun I H v w m hx hy Q q => by
  cases hx
  cases hy
  exact ⟨x, y, rfl, rfl, q _ I H (.refl m) (.bl _)⟩
theorem rd_eqD (h1 : SeqAt.shaped a = true) (h2 : SeqAt.shaped b = true) : RD K (rEqD K) a b (.bool (PyData.eqv a b)) := fun I H v w m hx hy Q q =>
  ⟨a, b, Dp.mono m.sub _ _ hx, Dp.mono m.sub _ _ hy, h1, h2, q _ I H (.refl m) (.bl _)⟩
theorem rd_neD (h1 : SeqAt.shaped a = true) (h2 : SeqAt.shaped b = true) : RD K (rNeD K) a b (.bool (!PyData.eqv a b)) := fun I H v w m hx hy Q q =>
  ⟨a, b, Dp.mono m.sub _ _ hx, Dp.mono m.sub _ _ hy, h1, h2, q _ I H (.refl m) (.bl _)⟩
/-! built-ins -/
theorem cd_len : CD K (fun xs H Q => ∃ p ys, xs = [.ref p] ∧ (SqL K H p ys ∨ SqT K H p ys) ∧ Q (.int ys.length) H) [.tuple xs] (.int (xs.length : Int)) := fun I H vs m hv Q q => by
  cases hv with
  | cons h1 h2 =>
    cases h2
    cases h1 with
    | tup hs ha => exact ⟨_, _, rfl, .inr (ex_sqT m.sub hs), by rw [DpAll.len ha]; exact q _ I H (.refl m) (.int _)⟩
theorem cd_lenL : CD K (fun xs H Q => ∃ p ys, xs = [.ref p] ∧ (SqL K H p ys ∨ SqT K H p ys) ∧ Q (.int ys.length) H) [.list xs] (.int (xs.length : Int)) := fun I H vs m hv Q q => by
  cases hv with
  | cons h1 h2 =>
    cases h2
    cases h1 with
    | lst hs ha => exact ⟨_, _, rfl, .inl (m.sub.seq hs), by rw [DpAll.len ha]; exact q _ I H (.refl m) (.int _)⟩
/-- list(a tuple) that stays -/
theorem cd_listT : CD K (fun xs H Q => ∃ p ys, xs = [.ref p] ∧ (SqL K H p ys ∨ SqT K H p ys) ∧ ∀ l, H l = none → Q (.ref l) (upd H l (.lst ys))) [.tuple xs] (.list xs) := fun I H vs m hv Q q => by
  cases hv with
  | cons h1 h2 =>
    cases h2
    cases h1 with
    | tup hs ha => exact ⟨_, _, rfl, .inr (ex_sqT m.sub hs), fun p hp => q _ _ _ (Ext.lay m hp) (.lst (.inl (.inl upd_same)) (DpAll.mono (same_new (m.sub.free hp)) _ _ ha))⟩
/-! bools -/
theorem evb_test {x : Bool} (h : EvD K te σ I (.bool x)) : EvB K (tTest te) σ I x := fun I1 H1 s m Q q => h I1 H1 s m _ fun v I2 H2 e k => by
  cases k
  exact ⟨x, rfl, q I2 H2 e⟩
theorem evb_B {x : Bool} (h : EvD K te σ I (.bool x)) : EvB K (tB te) σ I x := fun I1 H1 s m Q q => h I1 H1 s m _ fun v I2 H2 e k => by
  cases k
  exact ⟨x, rfl, q I2 H2 e⟩
theorem evb_not {x : Bool} (h : EvB K t σ I x) : EvB K (tNot t) σ I (!x) := fun I1 H1 s m Q q => h I1 H1 s m _ fun I2 H2 e => q I2 H2 e
theorem evb_and {x y : Bool} (h : EvB K t σ I x) (g : x = true → EvB K u σ I y) : EvB K (tAnd t u) σ I (x && y) := fun I1 H1 s m Q q => h I1 H1 s m _ fun I2 H2 e => by
  cases x with
  | true => exact g rfl I2 H2 (s.trans e.ii) e.im _ fun I3 H3 e2 => q I3 H3 (e.trans e2)
  | false => exact q I2 H2 e
theorem evb_or {x y : Bool} (h : EvB K t σ I x) (g : x = false → EvB K u σ I y) : EvB K (tOr t u) σ I (x || y) := fun I1 H1 s m Q q => h I1 H1 s m _ fun I2 H2 e => by
  cases x with
  | false => exact g rfl I2 H2 (s.trans e.ii) e.im _ fun I3 H3 e2 => q I3 H3 (e.trans e2)
  | true => exact q I2 H2 e
theorem evd_not {x : Bool} (h : EvD K te σ I (.bool x)) : EvD K (tNotV te) σ I (.bool (!x)) := fun I1 H1 s m Q q => h I1 H1 s m _ fun v I2 H2 e k => by
  cases k
  exact ⟨x, rfl, q _ I2 H2 e (.bl _)⟩
theorem evd_and {x y : Bool} (h : EvD K ta σ I (.bool x)) (g : x = true → EvD K tb σ I (.bool y)) : EvD K (tAndV ta tb) σ I (.bool (x && y)) := fun I1 H1 s m Q q => h I1 H1 s m _ fun v I2 H2 e k => by
  cases k
  cases x with
  | true => exact ⟨_, rfl, g rfl I2 H2 (s.trans e.ii) e.im _ fun w I3 H3 e2 k2 => q w I3 H3 (e.trans e2) k2⟩
  | false => exact ⟨_, rfl, q _ I2 H2 e (.bl _)⟩
theorem evd_or {x y : Bool} (h : EvD K ta σ I (.bool x)) (g : x = false → EvD K tb σ I (.bool y)) : EvD K (tOrV ta tb) σ I (.bool (x || y)) := fun I1 H1 s m Q q => h I1 H1 s m _ fun v I2 H2 e k => by
  cases k
  cases x with
  | false => exact ⟨_, rfl, g rfl I2 H2 (s.trans e.ii) e.im _ fun w I3 H3 e2 k2 => q w I3 H3 (e.trans e2) k2⟩
  | true => exact ⟨_, rfl, q _ I2 H2 e (.bl _)⟩
theorem evd_if {x : Bool} (h : EvB K t σ I x) (g1 : x = true → EvD K ta σ I d) (g2 : x = false → EvD K tb σ I d) : EvD K (tIf t ta tb) σ I d := fun I1 H1 s m Q q => h I1 H1 s m _ fun I2 H2 e => by
  cases x with
  | true => exact g1 rfl I2 H2 (s.trans e.ii) e.im _ fun w I3 H3 e2 k2 => q w I3 H3 (e.trans e2) k2
  | false => exact g2 rfl I2 H2 (s.trans e.ii) e.im _ fun w I3 H3 e2 k2 => q w I3 H3 (e.trans e2) k2
theorem bls_of : ∀ {bs : List Bool} {vs : List V}, DpAll K H vs (bs.map PyData.bool) → vs = bs.map V.bl
  | [], _, h => by cases h; rfl
  | b :: bs, _, h => by
    cases h with
    | cons h1 h2 =>
      cases h1
      rw [bls_of h2]
      rfl
/-- all(..), any(..) of a list that was made for it -/
theorem evd_all {bs : List Bool} (h : EvC K te σ I (bs.map PyData.bool)) : EvD K (tCB (rAll K) (tCons te tNil)) σ I (.bool (bs.all id)) := fun I1 H1 s m Q q =>
  h I1 H1 s m _ fun p vs I2 H2 e _ _ hp k => ⟨p, bs, rfl, by rw [← bls_of k]; exact SqL.of hp, q _ I2 H2 e (.bl _)⟩
theorem evd_any {bs : List Bool} (h : EvC K te σ I (bs.map PyData.bool)) : EvD K (tCB (rAny K) (tCons te tNil)) σ I (.bool (bs.any id)) := fun I1 H1 s m Q q =>
  h I1 H1 s m _ fun p vs I2 H2 e _ _ hp k => ⟨p, bs, rfl, by rw [← bls_of k]; exact SqL.of hp, q _ I2 H2 e (.bl _)⟩
theorem Ext.put {I' H H' : Hp} {p : Addr} {xs : List V} (e : Ext I H I' H') (hp : H p = none) (ip : I' p = none) : Ext I H I' (upd H' p (.lst xs)) :=
  ⟨e.im.put ip, e.ii, fun b o h => by rw [upd_ne (ne_of_none h hp)]; exact e.hh _ _ h, e.old⟩
/-- a cell that is not changed any more -/
theorem Im.freeze {p : Addr} {vs : List V} (m : Im I H) (hp : H p = some (.lst vs)) : Im (upd I p (.lst vs)) H := by
  refine ⟨fun b o e => ?_, fun b xs e => ?_⟩
  · by_cases h : b = p
    · subst h
      rw [upd_same] at e
      cases e
      exact hp
    · rw [upd_ne h] at e
      exact m.sub _ _ e
  · rw [upd_ne (ne_of e hp (by intro z; cases z))]
    exact m.tup _ _ e
/-- the turns of a comprehension -/
theorem lc_turns {i : Nat} {own : List Nat} {D : Addr} {vs : List V} {f : PyData → PyData} {I2 H2 : Hp}
    (s : Same I I2) (im : Im I2 H2) (hD : H2 D = none) (hd : DpAll K I2 vs ds) (hn : ds.length ≤ 100000)
    (hσ : ∀ v, wipe ((wipe σ own).set i (some v)) own = wipe σ own)
    (hel : ∀ (j : Nat) (v : V) (d : PyData) (I' : Hp), ds[j]? = some d → Same I I' → Dp K I' v d → EvD K te ((wipe σ own).set i (some v)) I' (f d)) :
    ∃ Pv : Nat → Hp → Prop, Pv 0 (upd H2 D (.lst [])) ∧ (∀ j H, Pv j H → ∃ I', Ext I2 H2 I' H ∧ Same I2 I') ∧
      (∀ j x H, vs[j]? = some x → Pv j H → gName i x (wipe σ own) H fun σ2 H2 => wipe σ2 own = wipe σ own ∧ tYes σ2 H2 fun b H3 =>
        if b = true then te σ2 H3 fun y H4 => ∃ acc, H4 D = some (.lst acc) ∧ acc.length < sizeLine ∧ Pv (j + 1) (upd H4 D (.lst (acc ++ [y]))) else Pv (j + 1) H3) ∧
      ∀ H, Pv vs.length H → ∃ ws I', Ext I2 H2 I' H ∧ I' D = none ∧ H D = some (.lst ws) ∧ DpAll K I' ws (ds.map f) := by
  have iD : I2 D = none := im.sub.free hD
  refine ⟨fun j H => ∃ I' acc, Ext I2 H2 I' H ∧ I' D = none ∧ H D = some (.lst acc) ∧ DpAll K I' acc ((ds.take j).map f), ⟨I2, [], Ext.cell im hD, iD, upd_same, .nil⟩, fun j H ⟨I', _, e, _⟩ => ⟨I', e, e.ii⟩, ?_, ?_⟩
  · rintro j x H ej ⟨I', acc, e, iD', hD', k⟩
    obtain ⟨d, ed, kd⟩ := DpAll.get hd ej
    have hj : j < ds.length := (List.getElem?_eq_some_iff.mp ed).1
    refine ⟨hσ x, ?_⟩
    show te ((wipe σ own).set i (some x)) H _
    refine hel j x d I' ed (s.trans e.ii) (Dp.mono e.ii _ _ kd) I' H (Same.refl _) e.im _ fun y I4 H4 e4 k4 => ?_
    have hl : acc.length ≤ 100000 := by
      rw [DpAll.len k, List.length_map, List.length_take]
      omega
    refine ⟨acc, e4.hh _ _ hD', Nat.lt_of_le_of_lt hl (by decide), I4, acc ++ [y], (e.trans e4).put hD (by rw [e4.old _ _ hD']; exact iD'), by rw [e4.old _ _ hD']; exact iD', upd_same, ?_⟩
    rw [List.take_add_one, ed, List.map_append]
    exact DpAll.app (DpAll.mono e4.ii _ _ k) (.cons k4 .nil)
  · rintro H ⟨I', acc, e, iD', hD', k⟩
    rw [DpAll.len hd, List.take_length] at k
    exact ⟨acc, I', e, iD', hD', k⟩
theorem evc_lc {i : Nat} {own : List Nat} {wt : TE} {f : PyData → PyData} (hw : EvD K wt σ I (.list ds)) (hn : ds.length ≤ 100000)
    (hσ : ∀ v, wipe ((wipe σ own).set i (some v)) own = wipe σ own)
    (hel : ∀ (j : Nat) (v : V) (d : PyData) (I' : Hp), ds[j]? = some d → Same I I' → Dp K I' v d → EvD K te ((wipe σ own).set i (some v)) I' (f d)) : EvC K (tLc (iList K wt) (gName i) tYes te own) σ I (ds.map f) := fun I1 H1 s m Q q =>
  hw I1 H1 s m _ fun v I2 H2 e2 k2 => by
    cases k2 with
    | lst hs ha =>
      rename_i a vs
      refine ⟨a, rfl, ⟨vs, e2.im.sub.seq hs⟩, fun D hD => ?_⟩
      obtain ⟨Pv, p0, pI, pt, pd⟩ := lc_turns (s.trans e2.ii) e2.im hD ha hn hσ hel
      refine lc_list (xs := vs) Pv p0 (fun j H _ h => ?_) pt fun H h => ?_
      · obtain ⟨I', e, s'⟩ := pI j H h
        exact e.im.sub.seq (s'.seq hs)
      · obtain ⟨ws, I', e, iD, hD', k⟩ := pd H h
        exact q D ws I' H (e2.trans e) (e2.hh.free hD) iD hD' k
theorem evc_lcT {i : Nat} {own : List Nat} {wt : TE} {f : PyData → PyData} (hw : EvD K wt σ I (.tuple ds)) (hn : ds.length ≤ 100000)
    (hσ : ∀ v, wipe ((wipe σ own).set i (some v)) own = wipe σ own)
    (hel : ∀ (j : Nat) (v : V) (d : PyData) (I' : Hp), ds[j]? = some d → Same I I' → Dp K I' v d → EvD K te ((wipe σ own).set i (some v)) I' (f d)) : EvC K (tLc (iTup K wt) (gName i) tYes te own) σ I (ds.map f) := fun I1 H1 s m Q q =>
  hw I1 H1 s m _ fun v I2 H2 e2 k2 => by
    cases k2 with
    | tup hs ha =>
      rename_i a vs
      refine ⟨a, rfl, ⟨vs, ex_sqT e2.im.sub hs⟩, fun D hD => ?_⟩
      obtain ⟨Pv, p0, pI, pt, pd⟩ := lc_turns (s.trans e2.ii) e2.im hD ha hn hσ hel
      refine lc_tup (xs := vs) Pv p0 (fun j H _ h => ?_) pt fun H h => ?_
      · obtain ⟨I', e, s'⟩ := pI j H h
        exact ex_sqT e.im.sub (ex_sqT s' hs)
      · obtain ⟨ws, I', e, iD, hD', k⟩ := pd H h
        exact q D ws I' H (e2.trans e) (e2.hh.free hD) iD hD' k

/-! ### statements, with I and H at hand -/
theorem s_asg {i : Nat} {D : Ends} (h : EvD K te σ I d) (m : Im I H) (k : ∀ v I' H', Ext I H I' H' → Dp K I' v d → D.nx (σ.set i (some v)) H') : tAsg te (gName i) D σ H := h I H (Same.refl _) m _ fun v I2 H2 e kd => k v I2 H2 e kd
theorem s_cell {i : Nat} {D : Ends} (h : EvC K te σ I ds) (m : Im I H) (k : ∀ p vs I' H', Ext I H I' H' → H p = none → I' p = none → H' p = some (.lst vs) → DpAll K I' vs ds → D.nx (σ.set i (some (.ref p))) H') : tAsg te (gName i) D σ H := h I H (Same.refl _) m _ fun p vs I2 H2 e h1 h2 h3 h4 => k p vs I2 H2 e h1 h2 h3 h4
theorem s_ret {D : Ends} (h : EvD K te σ I d) (m : Im I H) (k : ∀ v I' H', Ext I H I' H' → Dp K I' v d → D.rt v H') : tRet te D σ H := h I H (Same.refl _) m _ k
theorem s_if {D : Ends} {x y : TS} {c : Bool} (h : EvB K t σ I c) (m : Im I H) (k1 : c = true → ∀ I' H', Ext I H I' H' → x D σ H') (k2 : c = false → ∀ I' H', Ext I H I' H' → y D σ H') : tIfS t x y D σ H := h I H (Same.refl _) m _ fun I2 H2 e => by
  cases c with
  | true => exact k1 rfl I2 H2 e
  | false => exact k2 rfl I2 H2 e
/-- xs.append(e) of a cell -/
theorem s_append {i : Nat} {D : Ends} {p : Addr} {vs : List V} (hi : σ[i]? = some (some (.ref p))) (hp : H p = some (.lst vs)) (ip : I p = none) (hn : vs.length < 100000) (h : EvD K te σ I d) (m : Im I H)
    (k : ∀ v I' H', Ext I H I' H' → Dp K I' v d → Im I' (upd H' p (.lst (vs ++ [v]))) → I' p = none → D.nx σ (upd H' p (.lst (vs ++ [v])))) : tDrop (tBM K "list" rAppend (tVar i) (tCons te tNil)) D σ H :=
  ⟨.ref p, hi, .inl ⟨rfl, _, SqL.of hp⟩, h I H (Same.refl _) m _ fun v I2 H2 e kd => ⟨p, vs, v, rfl, rfl, e.hh _ _ hp, Nat.lt_trans hn (by decide), k v I2 H2 e kd (e.im.put (by rw [e.old _ _ hp]; exact ip)) (by rw [e.old _ _ hp]; exact ip)⟩⟩
/-- xs.extend([..]) of a cell by a new list -/
theorem s_extend {i : Nat} {D : Ends} {p : Addr} {vs : List V} (hi : σ[i]? = some (some (.ref p))) (hp : H p = some (.lst vs)) (ip : I p = none) (hn : vs.length + ds.length ≤ 100000) (h : EvC K te σ I ds) (m : Im I H)
    (k : ∀ ws I' H', Ext I H I' H' → DpAll K I' ws ds → Im I' (upd H' p (.lst (vs ++ ws))) → I' p = none → D.nx σ (upd H' p (.lst (vs ++ ws)))) : tDrop (tBM K "list" rExtend (tVar i) (tCons te tNil)) D σ H :=
  ⟨.ref p, hi, .inl ⟨rfl, _, SqL.of hp⟩, h I H (Same.refl _) m _ fun q ws I2 H2 e hq iq hq2 kd => ⟨p, q, vs, ws, rfl, rfl, e.hh _ _ hp, hq2, by rw [DpAll.len kd]; exact Nat.le_trans hn (by decide), k ws I2 H2 e kd (e.im.put (by rw [e.old _ _ hp]; exact ip)) (by rw [e.old _ _ hp]; exact ip)⟩⟩
end
end Sb

namespace Sb
open PySem PySem.Spec PyProof.Rows L2
section
variable {K : PySem.W.Frag} {σ : L2.St} {I I0 H : Hp} {ta tb te : TE} {t u : TT} {a b d : PyData} {ds xs ys : List PyData} {r : R2}
/-- what an expression evaluates to: tuples alone, whatever else stands -/
def EvP (te : TE) (σ : L2.St) (H : Hp) (d : PyData) : Prop := ∀ H1, Same H H1 → ∀ Q : VK, (∀ v H2, Same H1 H2 → Tp H2 v d → Q v H2) → te σ H1 Q
def EvPs (ta : TA) (σ : L2.St) (H : Hp) (ds : List PyData) : Prop := ∀ H1, Same H H1 → ∀ Q : List V → Hp → Prop, (∀ vs H2, Same H1 H2 → TpAll H2 vs ds → Q vs H2) → ta σ H1 Q
theorem evp_int {i : Int} : EvP (tC (.int i)) σ H (.int i) := fun H1 s Q q => q _ H1 (.refl _) (.int i)
theorem evp_str {x : Str} : EvP (tC (.str x)) σ H (.str x) := fun H1 s Q q => q _ H1 (.refl _) (.str x)
theorem evp_var {i : Nat} {v : V} (h : σ[i]? = some (some v)) (hd : Tp H v d) : EvP (tVar i) σ H d := fun H1 s Q q => ⟨v, h, q v H1 (.refl _) (Tp.mono (KT.of s) _ _ hd)⟩
theorem evps_nil : EvPs tNil σ H [] := fun H1 s Q q => q [] H1 (.refl _) .nil
theorem evps_cons {tr : TA} (h : EvP te σ H d) (hr : EvPs tr σ H ds) : EvPs (tCons te tr) σ H (d :: ds) := fun H1 s Q q =>
  h H1 s _ fun v H2 s2 k1 => hr H2 (s.trans s2) _ fun vs H3 s3 k2 => q _ H3 (s2.trans s3) (.cons (Tp.mono (KT.of s3) _ _ k1) k2)
theorem evp_tup {tr : TA} (h : EvPs tr σ H ds) (hl : ds.length ≤ 100000) : EvP (tTup tr) σ H (.tuple ds) := fun H1 s Q q =>
  h H1 s _ fun vs H2 s2 k => ⟨by rw [TpAll.len k]; exact Nat.le_trans hl (by decide), fun p hp => q _ _ (s2.trans (same_new hp)) (.tup upd_same (TpAll.mono (KT.of (same_new hp)) _ _ k))⟩
theorem evp_cat (h1 : EvP ta σ H (.tuple xs)) (h2 : EvP tb σ H (.tuple ys)) (hl : xs.length + ys.length ≤ 100000) : EvP (tOp (rCatA K) ta tb) σ H (.tuple (xs ++ ys)) := fun H1 s Q q =>
  h1 H1 s _ fun v H2 s2 k1 => h2 H2 (s.trans s2) _ fun w H3 s3 k2 => by
    have k1' := Tp.mono (KT.of s3) _ _ k1
    cases k1' with
    | tup e1 a1 =>
      cases k2 with
      | tup e2 a2 =>
        rename_i a vs b ws
        refine ⟨a, b, vs, ws, rfl, rfl, SqT.of e1, SqT.of e2, ?_, fun e => ?_, fun _ e => ?_, fun _ _ p hp => ?_⟩
        · rw [TpAll.len a1, TpAll.len a2]
          exact Nat.le_trans hl (by decide)
        · subst e
          cases a1
          exact q _ H3 (s2.trans s3) (.tup e2 a2)
        · subst e
          cases a2
          rw [List.append_nil] at q
          exact q _ H3 (s2.trans s3) (.tup e1 a1)
        · exact q _ _ ((s2.trans s3).trans (same_new hp)) (.tup upd_same (TpAll.mono (KT.of (same_new hp)) _ _ (TpAll.app a1 a2)))
theorem s_par {i j : Nat} {ta : TA} {D : Ends} {d1 d2 : PyData} (h : EvDs K ta σ I [d1, d2]) (m : Im I H) (k : ∀ v w I' H', Ext I H I' H' → Dp K I' v d1 → Dp K I' w d2 → D.nx ((σ.set i (some v)).set j (some w)) H') : tPar i j ta D σ H := h I H (Same.refl _) m _ fun vs I2 H2 e kd => by
  cases kd with
  | cons h1 h2 =>
    cases h2 with
    | cons h3 h4 =>
      cases h4
      exact ⟨_, _, rfl, k _ _ I2 H2 e h1 h3⟩
theorem s_asg2 {i j n : Nat} {D : Ends} {d1 d2 : PyData} (hn : 2 = n) (h : EvD K te σ I (.tuple [d1, d2])) (m : Im I H) (k : ∀ v w I' H', Ext I H I' H' → Dp K I' v d1 → Dp K I' w d2 → D.nx ((σ.set i (some v)).set j (some w)) H') : tAsg te (gTup K n (gCons (gName i) (gCons (gName j) gNil))) D σ H := h I H (Same.refl _) m _ fun v I2 H2 e kd => by
  cases kd with
  | tup hs ha =>
    cases ha with
    | cons h1 h2 =>
      cases h2 with
      | cons h3 h4 =>
        cases h4
        exact ⟨_, _, rfl, ex_sqT e.im.sub hs, hn, _, _, rfl, _, _, rfl, rfl, k _ _ I2 H2 e h1 h3⟩
theorem s_asg3 {i j l n : Nat} {D : Ends} {d1 d2 d3 : PyData} (hn : 3 = n) (h : EvD K te σ I (.tuple [d1, d2, d3])) (m : Im I H) (k : ∀ v w x I' H', Ext I H I' H' → Dp K I' v d1 → Dp K I' w d2 → Dp K I' x d3 → D.nx (((σ.set i (some v)).set j (some w)).set l (some x)) H') : tAsg te (gTup K n (gCons (gName i) (gCons (gName j) (gCons (gName l) gNil)))) D σ H := h I H (Same.refl _) m _ fun v I2 H2 e kd => by
  cases kd with
  | tup hs ha =>
    cases ha with
    | cons h1 h2 =>
      cases h2 with
      | cons h3 h4 =>
        cases h4 with
        | cons h5 h6 =>
          cases h6
          exact ⟨_, _, rfl, ex_sqT e.im.sub hs, hn, _, _, rfl, _, _, rfl, _, _, rfl, rfl, k _ _ _ I2 H2 e h1 h3 h5⟩
theorem evc_lcB {i : Nat} {own : List Nat} {wt : TE} {g : PyData → Bool} (hw : EvD K wt σ I (.list ds)) (hn : ds.length ≤ 100000)
    (hσ : ∀ v, wipe ((wipe σ own).set i (some v)) own = wipe σ own)
    (hel : ∀ (j : Nat) (v : V) (d : PyData) (I' : Hp), ds[j]? = some d → Same I I' → Dp K I' v d → EvD K te ((wipe σ own).set i (some v)) I' (.bool (g d))) : EvC K (tLc (iList K wt) (gName i) tYes te own) σ I ((ds.map g).map PyData.bool) := by
  rw [List.map_map]
  exact evc_lc (f := fun d => .bool (g d)) hw hn hσ hel
/-- the tuples of a heap -/
def imT (H : Hp) : Hp := fun b => match H b with
  | some (.tup xs) => some (.tup xs)
  | _ => none
theorem im_T (H : Hp) : Im (imT H) H := by
  refine ⟨fun b o e => ?_, fun b xs e => ?_⟩
  · unfold imT at e
    split at e
    · rename_i xs q
      rw [q]
      exact e
    · cases e
  · unfold imT
    rw [e]
theorem imT_none {p : Addr} (h : H p = none) : imT H p = none := by
  unfold imT
  rw [h]
/-- the state at its beginning -/
theorem en_start {A st : Addr} {ns : List Int} (hS : SqL K H A (ns.map V.int)) (hl : ns.length ≤ 63) (hst : H st = none) : En K A st ns 0 (upd H st (.lst [])) := by
  refine ⟨fun H' g => ?_, hl, ⟨[], upd_same, Nat.le_refl _⟩, by omega⟩
  have up : ∀ b o, H b = some o → H' b = some o := fun b o e => g b o (ne_of_none e hst) (by rw [upd_ne (ne_of_none e hst)]; exact e)
  rcases hS with (h | ⟨o, h⟩) | h
  · exact .inl (.inl (up _ _ h))
  · exact .inl (.inr ⟨o, up _ _ h⟩)
  · exact .inr h
theorem En.ext {A st : Addr} {ns : List Int} {n : Nat} {I I' H' : Hp} (E : En K A st ns n H) (e : Ext I H I' H') : En K A st ns n H' :=
  E.next (.of e.hh) (by obtain ⟨zs, ez, hz⟩ := E.zs; exact ⟨zs, e.hh _ _ ez, hz⟩) E.small
theorem En.put {A st p : Addr} {ns : List Int} {n : Nat} {H0 : Hp} {ys : List V} (E0 : En K A st ns 0 H0) (g : Gx st H0 H) (E : En K A st ns n H) (hp : H0 p = none) : En K A st ns n (upd H p (.lst ys)) := by
  obtain ⟨zs, ez, hz⟩ := E.zs
  exact E0.next (g.mut hp) ⟨zs, by rw [upd_ne (E0.st_ne hp).symm]; exact ez, hz⟩ E.small
end
/-- Same, by the chain of what is known: each heap has one that it came of -/
local macro_rules | `(tactic| walk_at "sb_same") => `(tactic| first
  | exact Same.refl _
  | assumption
  | (refine Same.trans ?_ (by assumption); walk_at "sb_same"))
example (A B C D E : Hp) (h1 : Same A B) (h2 : Same B C) (h3 : Same C D) (h4 : Same D E) : Same A E := by walk_at "sb_same"
section
variable {X : Cx}
/-! the rules with K said: within a comprehension -/
theorem op_catA' (K : PySem.W.Frag) (h : X.K = K) : OpR X (binaryOp .Add) (rCatA K) := by subst h; exact op_catA
theorem ix_tup' (K : PySem.W.Frag) (h : X.K = K) : IxR X (rIxT K) := by subst h; exact ix_tup
theorem ix_list' (K : PySem.W.Frag) (h : X.K = K) : IxR X (rIxL K) := by subst h; exact ix_list
theorem sl_tupA' (K : PySem.W.Frag) (h : X.K = K) : SlR X (rSlA K) := by subst h; exact sl_tupA
theorem call_len_seq' (K : PySem.W.Frag) (h : X.K = K) : CallR X (.builtin "len") (fun xs H Q => ∃ p ys, xs = [.ref p] ∧ (SqL K H p ys ∨ SqT K H p ys) ∧ Q (.int ys.length) H) := by subst h; exact call_len_seq
theorem call_tuple_of' (K : PySem.W.Frag) (h : X.K = K) : CallR X (.type "tuple") (fun xs H Q => ∃ p ys, xs = [.ref p] ∧ ((SqL K H p ys ∧ ∀ l, H l = none → Q (.ref l) (upd H l (.tup ys))) ∨ (SqT K H p ys ∧ Q (.ref p) H))) := by subst h; exact call_tuple_of
theorem call_list_of' (K : PySem.W.Frag) (h : X.K = K) : CallR X (.type "list") (fun xs H Q => ∃ p ys, xs = [.ref p] ∧ (SqL K H p ys ∨ SqT K H p ys) ∧ ∀ l, H l = none → Q (.ref l) (upd H l (.lst ys))) := by subst h; exact call_list_of
end
end Sb

namespace Sb
open PySem PySem.Spec PyProof.Rows L2
/-- set(a tuple of ints) -/
def rSetTupI (K : PySem.W.Frag) (w : World) : List V → Hp → VK → Prop := fun xs H Q => ∃ (p : Addr) (ns : List Int), xs = [.ref p] ∧ SqT K H p (ns.map V.int) ∧ ns.length ≤ 1000 ∧
  ∀ (a : Addr) (c : Nat), H a = none → c ≤ ns.length → Q (.ref a) (upd H a (SetO w a (fun j => decide (j ∈ ns)) c))
theorem cr_setTupI {X : Cx} (hc : X.calm = true) : CallR X (.type "set") (rSetTupI X.K X.w) := by
  intro pins s σ H xs us Q I r h
  obtain ⟨p, ns, rfl, hq, hl, q⟩ := h
  rw [Vals.ref1 r]
  obtain ⟨its, rv, pt, hz⟩ := I.tuple hq
  have hi : IntsAre its.toArray.toList ns := ints_of_vals rv
  refine call_set_tupI ns (I.ok.hd hc) (show s.heap.IsTuple p its.toArray from pt) hi (by unfold scanBound; omega) fun h' tk c R1 hcn k => ?_
  exact ⟨.ref s.heap.objs.size, upd H s.heap.objs.size (SetO X.w s.heap.objs.size (fun j => decide (j ∈ ns)) c), I.laid (t' := tk) k (Nat.le_refl _) (setO_new R1), rfl, q _ c (I.hok.fresh (Nat.le_refl _)) hcn⟩
end Sb

namespace Sb
open PySem PySem.Spec PyProof.Rows L2
/-! ### a tuple times a number: the tuple itself where it is empty or taken once -/
theorem mul_self (l : Addr) (items : Array Value) (n : Nat) (dd : Option Addr) (sl : Array (Option Value)) (x : Int) (u : Tok) (c0 : (decide (x < -(2 ^ 63)) || decide (x ≥ 2 ^ 63)) = false) (c1 : (items.isEmpty || x == 1) = true) :
    Meets (Builtin.«tuple.__mul__» ⟨[.ref l, .int x u], []⟩) (fun _ R s => s.heap.get? l = some { cls := .type "tuple", dict := dd, data := .seq items n, slots := sl } ∧ R (.ok (.ret (Value.ref l))) s) :=
  .of_wp fun prog w A R s h => by
    obtain ⟨hp, g, d, tk, os⟩ := s
    obtain ⟨hl, h⟩ := h
    have f1 := AutoSeq1.idx_int
    wp_walk using wpAny_loadPart' hl
    repeat (first
      | (refine wpAny_ite_false (decide_eq_false (by rw [c0]; exact Bool.false_ne_true)) ?_; wp_walk using wpAny_loadPart' hl)
      | (refine wpAny_ite_true (decide_eq_true c1) ?_; wp_walk using wpAny_loadPart' hl))
    exact ⟨_, rfl, h⟩
def rRepA (K : PySem.W.Frag) : R2 := fun x y H Q => ∃ l k xs, x = .ref l ∧ y = .int k ∧ SqT K H l xs ∧ 1 ≤ k ∧ k ≤ 1000 ∧ xs.length ≤ 1000 ∧ ((xs = [] ∨ k = 1) → Q (.ref l) H) ∧ (xs ≠ [] → k ≠ 1 → ∀ p, H p = none → Q (.ref p) (upd H p (.tup (List.replicate k.toNat xs).flatten)))
theorem op_repA {X : Cx} : OpR X (binaryOp .Mult) (rRepA X.K) := by
  intro pins s σ H x y v u Q I rx ry h
  obtain ⟨l, k, xs, e1, e2, hT, h1, h2, hz, q1, q2⟩ := h
  by_cases hs : xs = [] ∨ k = 1
  · have q := q1 hs
    subst e1 e2
    cases rx
    obtain ⟨t, rfl⟩ := ry
    obtain ⟨its, r, ⟨⟨cls, dd, data, sl⟩, ho, hc, n, hd⟩, hsz⟩ := I.tuple hT
    simp only at hc hd
    subst hc hd
    have c1 : (its.toArray.isEmpty || k == 1) = true := by
      rcases hs with e | e
      · subst e
        cases r
        rfl
      · rw [e, beq_self_eq_true, Bool.or_true]
    have c0 : (decide (k < -(2 ^ 63)) || decide (k ≥ 2 ^ 63)) = false := by
      rw [decide_eq_false (by omega), decide_eq_false (by omega)]
      rfl
    refine wpAny_binaryOp_repeat_ref (T := "tuple") (U := "int") (by decide) ⟨_, ho, rfl⟩ (fun s' => typeIs_int s' k t) noFill_tuple_mul F.fills_int_mul F.slot_int_rmul repeat_tuple F.slot_int_index.lookup
      (call_meets F.slot_int_rmul (typeIs_int s k t) F.entry_int_rmul (F.args_int_rmul_2 _ _) (int_rmul_tuple k t l its.toArray n dd sl) ⟨ho, rfl, ⟨_, ho, rfl⟩, ?_⟩)
    exact call_meets F.slot_tuple_mul ⟨_, ho, rfl⟩ F.entry_tuple_mul (F.args_tuple_mul_2 _ _) (mul_self l its.toArray n dd sl k t c0 c1) ⟨ho, ⟨.ref l, H, I, rfl, q⟩⟩
  · have hn : xs ≠ [] := fun e => hs (.inl e)
    have hk : k ≠ 1 := fun e => hs (.inr e)
    exact op_repT pins s σ H x y v u Q I rx ry ⟨l, k, xs, e1, e2, hT, hn, by omega, h2, hz, q2 hn hk⟩
theorem op_repA' {X : Cx} (K : PySem.W.Frag) (h : X.K = K) : OpR X (binaryOp .Mult) (rRepA K) := by subst h; exact op_repA
theorem rd_repA {K : PySem.W.Frag} {k : Int} {xs : List PyData} (h1 : 1 ≤ k) (hk : k ≤ 1000) (hl : xs.length ≤ 1000) : RD K (rRepA K) (.tuple xs) (.int k) (.tuple (repD k.toNat xs)) := fun I H x y m hx hy Q q => by
  cases hx with
  | tup h2 k1 =>
    cases hy
    rename_i a vs
    refine ⟨a, k, vs, rfl, rfl, ex_sqT m.sub h2, h1, hk, by rw [DpAll.len k1]; exact hl, fun e => ?_, fun _ _ p hp => ?_⟩
    · have e2 : repD k.toNat xs = xs := by
        rcases e with e | e
        · subst e
          cases k1
          unfold repD
          generalize k.toNat = j
          induction j with
          | zero => rfl
          | succ j ih => rw [List.replicate_succ, List.flatten_cons, ih]; rfl
        · subst e
          unfold repD
          rw [show (1 : Int).toNat = 1 from rfl, List.replicate_one]
          simp
      rw [e2] at q
      exact q _ I H (.refl m) (.tup h2 k1)
    · exact q _ _ _ (Ext.lay m hp) (.tup (.inl (.inl upd_same)) (DpAll.mono (same_new (m.sub.free hp)) _ _ (DpAll.rep k1 k.toNat)))
section
variable {K : PySem.W.Frag} {σ : L2.St} {I H : Hp} {te : TE} {d : PyData} {xs : List PyData}
theorem evd_neg {i : Int} (h : EvD K te σ I (.int i)) : EvD K (tUn (rU fun i => .int (-i)) te) σ I (.int (-i)) := fun I1 H1 s m Q q => h I1 H1 s m _ fun v I2 H2 e k => by
  cases k
  exact ⟨i, rfl, q _ I2 H2 e (.int _)⟩
theorem rd_ixA {i : Int} (e : atI xs i = some d) : RD K (rIxT K) (.tuple xs) (.int i) d := fun I H x y m hx hy Q q => by
  cases hx with
  | tup h1 k1 =>
    cases hy
    rename_i a vs
    obtain ⟨j, hs, hj, _⟩ := atI_get e
    obtain ⟨v, ev, kv⟩ := DpAll.got k1 hj
    have e2 : atI vs i = some v := by
      unfold atI at e ⊢
      rw [DpAll.len k1]
      cases q : ixN xs.length i with
      | none => rw [q] at e; cases e
      | some j' =>
        rw [q] at e
        have e3 : xs[j']? = some d := e
        obtain ⟨v', ev', kv'⟩ := DpAll.got k1 e3
        have hjj : j' = j := by
          have h2 := (ixN_seq q).1
          rw [hs] at h2
          exact (Option.some.inj h2).symm
        show vs[j']? = some v
        rw [hjj]
        exact ev
    exact ⟨a, vs, i, v, rfl, rfl, ex_sqT m.sub h1, e2, q _ I H (.refl m) kv⟩
theorem rd_notB {x y : Bool} : RD K rNotB (.bool x) (.bool y) (.bool (!decide (x = y))) := fun I H v w m hx hy Q q => by
  cases hx
  cases hy
  exact ⟨x, y, rfl, rfl, q _ I H (.refl m) (.bl _)⟩
theorem rd_sub {i j : Int} : RD K (rI0 fun i j => .int (i - j)) (.int i) (.int j) (.int (i - j)) := rd_I0 fun _ => .int _
theorem rd_add {i j : Int} : RD K (rI0 fun i j => .int (i + j)) (.int i) (.int j) (.int (i + j)) := rd_I0 fun _ => .int _
theorem rd_repA' {k : Int} (h1 : 1 ≤ k) (hk : k ≤ 1000) (hl : xs.length ≤ 1000) (hd : d = .tuple (repD k.toNat xs)) : RD K (rRepA K) (.tuple xs) (.int k) d := by
  subst hd
  exact rd_repA h1 hk hl
theorem cutD_le (xs : List PyData) (lo hi : Option Int) : (cutD xs lo hi).length ≤ xs.length := by
  unfold cutD
  rw [List.length_take, List.length_drop]
  omega
theorem cut_last (xs : List PyData) (x : PyData) : cutD (xs ++ [x]) none (some (-1)) = xs := by
  unfold cutD
  have e : HT.sIx (xs ++ [x]).length (xs ++ [x]).length (some (-1)) = xs.length := by
    show (if (-1 : Int) < 0 then ((-1 : Int) + ((xs ++ [x]).length : Int)).toNat else min (-1 : Int).toNat (xs ++ [x]).length) = xs.length
    rw [if_pos (by decide), List.length_append, List.length_singleton]
    omega
  rw [e, HT.sIx_none, List.drop_zero, Nat.sub_zero, List.take_left']
  rfl
/-- for x in a list that is made for it and stays -/
theorem s_forL {g : TG} {tb : TS} {D : Ends} {ds : List PyData} (Pv : Hp → Nat → L2.St → Hp → Prop) (h : EvD K te σ I (.list ds)) (m : Im I H)
    (h0 : ∀ I' H', Ext I H I' H' → Pv I' 0 σ H') (hl : ∀ I' i σ H, Pv I' i σ H → ∃ I'', Same I' I'' ∧ Im I'' H)
    (hs : ∀ I' i x d σ H, ds[i]? = some d → Dp K I' x d → Pv I' i σ H → g x σ H fun σ2 H2 => tb { D with nx := Pv I' (i + 1), ct := Pv I' (i + 1), bk := D.nx } σ2 H2)
    (hd : ∀ I' σ H, Pv I' ds.length σ H → D.nx σ H) : tFor (iList K te) g tb D σ H :=
  h I H (Same.refl _) m _ fun v I2 H2 e k => by
    cases k with
    | lst hS ha =>
      rename_i a vs
      refine ⟨a, rfl, ⟨vs, e.im.sub.seq hS⟩, for_list (xs := vs) (Pv I2) (h0 I2 H2 e) (fun i σ H _ p => ?_) (fun i x σ H ei p => ?_) (fun σ H p => ?_)⟩
      · obtain ⟨I3, s3, m3⟩ := hl I2 i σ H p
        exact m3.sub.seq (s3.seq hS)
      · obtain ⟨d, ed, kd⟩ := DpAll.get ha ei
        exact hs I2 i x d σ H ed kd p
      · rw [DpAll.len ha] at p
        exact hd I2 σ H p
theorem map_take_succ {α β : Type} {f : α → β} {l : List α} {i : Nat} {x : α} (e : l[i]? = some x) : (l.take (i + 1)).map f = (l.take i).map f ++ [f x] := by
  rw [List.take_add_one, e, List.map_append]
  rfl
end
end Sb

namespace Sb
open PySem PySem.Spec PyProof.Rows L2
/-! ### sorted(a list of data that are alike) -/
section
variable {X : Cx} {pins : List (Addr × Obj)} {σ : L2.St} {H : Hp} {s : Shared}
theorem each_rel : ∀ {xs : List V} {us : List Value} {ds : List PyData}, Vals xs us → xs.length = ds.length → PySem.W.EachIs (fun v (b : V × PyData) => RelV b.1 v) us (xs.zip ds)
  | _, _, [], .nil, _ => .nil
  | _, _, d :: ds, .cons r t, h => .cons r (each_rel t (by simpa using h))
theorem each_reads (I : Inv X pins σ H s) : ∀ {xs : List V} {us : List Value} {ds : List PyData}, Vals xs us → DpAll X.K H xs ds → PySem.W.EachIs (fun v (b : V × PyData) => ∃ as, Reads s.heap v b.2 as) us (xs.zip ds)
  | _, _, [], .nil, _ => .nil
  | _, _, d :: ds, .cons r t, h => by
    cases h with
    | cons h1 h2 => exact .cons (Dp.reads I _ _ _ h1 r) (each_reads I t h2)
theorem vals_each : ∀ {us : List Value} {zs : List (V × PyData)}, PySem.W.EachIs (fun v (b : V × PyData) => RelV b.1 v) us zs → Vals (zs.map Prod.fst) us
  | _, _, .nil => .nil
  | _, _, .cons r t => .cons r (vals_each t)
theorem snd_zip {xs : List V} {ds : List PyData} (h : xs.length = ds.length) : (xs.zip ds).map Prod.snd = ds := List.map_snd_zip (Nat.le_of_eq h.symm)
def rSortedD (K : PySem.W.Frag) : List V → Hp → VK → Prop := fun vs H Q => ∃ (a : Addr) (xs : List V) (ds : List PyData), vs = [.ref a] ∧ SqL K H a xs ∧ DpAll K H xs ds ∧ PySem.W.AllAlike ds ∧ PySem.W.Sortable ds ∧ (∀ d ∈ ds, d.depth ≤ 1) ∧ ds.length ≤ 1000 ∧
  ∀ p, H p = none → Q (.ref p) (upd H p (.lst (((xs.zip ds).mergeSort (PySem.W.dataLe false Prod.snd)).map Prod.fst)))
theorem cr_sortedD (hu : X.A.units + 64 < cLine) : CallR X (.builtin "sorted") (rSortedD X.K) := by
  intro pins s σ H vs us Q I r h
  obtain ⟨a, xs, ds, rfl, hs, hd, hal, hk, hdp, hlen, q⟩ := h
  obtain ⟨its, rv, hl, _⟩ := I.list hs
  have el : xs.length = ds.length := DpAll.len hd
  have ez : (xs.zip ds).map Prod.snd = ds := snd_zip el
  rw [Vals.ref1 r]
  have hl2 : (xs.zip ds).length = ds.length := by rw [List.length_zip, el, Nat.min_self]
  refine PySem.W.sorted_data (enc := Prod.snd) hl.isList (each_rel rv el) (each_reads I rv hd) (by rw [ez]; exact hal) (by rw [ez]; exact hk) (by rw [hl2]; exact Nat.le_trans hlen (by decide)) (fun b hb => ?_) fun out h1 h2 => ?_
  · have := hdp b.2 (by rw [← ez]; exact List.mem_map_of_mem hb)
    omega
  · obtain ⟨ep, he'⟩ := PyProof.Rows.sortedAll_at s.heap its out.toArray
    refine ⟨.ref _, upd H (s.heap.objs.size + 1) (.lst _), I.laid (t' := s.toks) (fun _ _ => PyProof.Rows.sortedAll_old) (Nat.le_succ _) ⟨?_, out, ep, vals_each h2, he'⟩, rfl, q _ (I.hok.fresh (Nat.le_succ _))⟩
    rw [List.length_map, List.length_mergeSort, hl2]
    exact Nat.le_trans hlen (by decide)
end
end Sb

/-! sorted of tuples, the empty one among them. -/
namespace Sb
open PySem PySem.Spec PyProof.Rows L2
section
variable {prog : Program} {w : World} {A : Around} {E : Value → Shared → Prop} {s : Shared}
theorem call_tuple_lt {E : Value → Shared → Prop} {Q : Value → Shared → Prop} {l b : Addr} {items items2 : Array Value} {e r : Nat → Bool} (hl : IsTup s.heap l items) (hb : IsTup s.heap b items2)
    (he : ∀ (j : Nat) (h1 : j < items.size) (h2 : j < items2.size), SeqAt.EqAt A.in1 s items[j] items2[j] (e j)) (hr : ∀ (j : Nat) (h1 : j < items.size) (h2 : j < items2.size), e j = false → SeqAt.RcLt A.in1 s items[j] items2[j] (r j))
    (h : Q (.bool (SeqAt.firstLt e r (decide (items.size < items2.size)) (List.range (min items.size items2.size)))) s) : wpAny (model prog w) A (call (.builtin "tuple.__lt__") [.ref l, .ref b]) Q E s := by
  obtain ⟨⟨cls, dd, data, sl⟩, ho, hc, n, hd⟩ := hl
  obtain ⟨⟨cls2, dd2, data2, sl2⟩, ho2, hc2, n2, hd2⟩ := hb
  dsimp only at hc hd hc2 hd2
  subst hc hd hc2 hd2
  exact call_meets F.slot_tuple_lt ⟨_, ho, rfl⟩ F.entry_tuple_lt (F.args_tuple_lt_2 _ _) (SeqAt.tuple_ltAt l b items items2 n n2 dd dd2 sl sl2 e r) ⟨ho, ho2, he, hr, h⟩
theorem oneLt_tup {xs ys : List PyData} {a b : Value} {as bs : List Addr} {Q : Bool → Shared → Prop} (ra : Reads s.heap a (.tuple xs) as) (rb : Reads s.heap b (.tuple ys) bs) (hal : PySem.W.alikeAll xs ys = true)
    (hu : A.units + min (PyData.tuple xs).depth (PyData.tuple ys).depth < cLine) (q : Q (PySem.W.dataLt (.tuple xs) (.tuple ys)) s) : wpAny (model prog w) A (oneLt' true a b) Q E s := by
  cases ra with
  | tuple h1 h2 h3 h4 =>
    rename_i l o vs n
    cases rb with
    | tuple k1 k2 k3 k4 =>
      rename_i l' o' vs' n'
      rw [PyData.depth, PyData.depth] at hu
      have n1 : xs.length = vs.size := by have := SeqAt.ReadsAll.length xs vs.toList as h4; simpa using this.symm
      have n2 : ys.length = vs'.size := by have := SeqAt.ReadsAll.length ys vs'.toList bs k4; simpa using this.symm
      rw [oneLt'_eq]
      simp only [if_true]
      refine wpAny_bind (wpAny_cRoomFor (SeqAt.room_here hu) (wpAny_bind (wpAny_callSpecialIfBound?_slot ⟨o, h1, h2⟩ F.slot_tuple_lt (call_tuple_lt (e := SeqAt.pairEq xs ys) (r := fun j => PySem.W.dataLt (xs.getD j PyData.none) (ys.getD j PyData.none)) ⟨o, h1, h2, n, h3⟩ ⟨o', k1, k2, n', k3⟩ (fun j j1 j2 => ?_) (fun j j1 j2 hj => ?_) ?_))))
      · have := PySem.W.eqAt_alikeAll xs ys A.in1 s vs.toList vs'.toList as bs h4 k4 hal (SeqAt.room_in hu) j (by simpa using j1) (by simpa using j2)
        simpa using this
      · have := PySem.W.rcLt_alikeAll xs ys A.in1 s vs.toList vs'.toList as bs h4 k4 hal (SeqAt.room_in hu) j (by simpa using j1) (by simpa using j2) hj
        simpa using this
      · rw [PySem.W.dataLt_tuple, ← PySem.W.firstLt_toks xs ys hal, n1, n2] at q
        exact wpAny_truthy_bool q
theorem len_each {α β : Type} {R : α → β → Prop} : ∀ {us : List α} {zs : List β}, PySem.W.EachIs R us zs → us.length = zs.length
  | _, _, .nil => rfl
  | _, _, .cons _ h => by rw [List.length_cons, List.length_cons, len_each h]
def isT : PyData → Bool
  | .tuple _ => true
  | _ => false
def isT1 : PyData → Bool
  | .tuple (_ :: _) => true
  | _ => false
theorem first_tup {v : Value} {d : PyData} {as : List Addr} (r : Reads s.heap v d as) (ht : isT d = true) {Q : Option Value → Shared → Prop} (h : ∀ o : Option Value, o.isSome = isT1 d → Q o s) : wpAny (model prog w) A (firstOfTuple' v) Q E s := by
  cases r with
  | tuple h1 h2 h3 h4 =>
    rename_i l o vs n xs
    have n1 := SeqAt.ReadsAll.length xs vs.toList as h4
    rw [PySem.W.kas_first_eq]
    refine wpAny_bind (PySem.W.Looks.here (PySem.W.looks_reads (Reads.tuple h1 h2 h3 h4)) ?_)
    have hn : ¬ ((PySem.W.dataType (.tuple xs) != Value.type "tuple") = true) := by
      simp [PySem.W.dataType]
    rw [if_neg hn]
    refine wpAny_bind (wpAny_listItems h1 h3 (wpAny_pure (h _ ?_)))
    cases xs with
    | nil =>
      have : vs.size = 0 := by simpa using n1
      rw [Array.getElem?_eq_none (by omega)]
      rfl
    | cons x xs =>
      have : vs.size = xs.length + 1 := by simpa using n1
      rw [Array.getElem?_eq_getElem (by omega)]
      rfl
  | _ => cases ht
theorem firsts_tups {vs : List Value} {ds : List PyData} (e : PySem.W.EachIs (fun v d => ∃ as, Reads s.heap v d as) vs ds) : (∀ d ∈ ds, isT d = true) → ∀ {Q : List (Option Value) → Shared → Prop}, (∀ fs : List (Option Value), fs.map (fun o => o.isSome) = ds.map isT1 → Q fs s) → wpAny (model prog w) A (List.mapM firstOfTuple' vs) Q E s := by
  induction e with
  | nil =>
    intro _ Q h
    rw [List.mapM_nil]
    exact wpAny_pure (h [] rfl)
  | cons r e ih =>
    intro ht Q h
    rw [List.mapM_cons]
    obtain ⟨as, r⟩ := r
    refine wpAny_bind (first_tup r (ht _ List.mem_cons_self) fun o ho => wpAny_bind (ih (fun d hd => ht d (List.mem_cons_of_mem _ hd)) fun fs hf => wpAny_pure (h (o :: fs) ?_)))
    rw [List.map_cons, List.map_cons, ho, hf]
def tupKind (ds : List PyData) : SortKind := if (ds.map isT1).head? = some true then general' else oneType'
theorem kind_tups_any {vs : List Value} {ds : List PyData} (e : PySem.W.EachIs (fun v d => ∃ as, Reads s.heap v d as) vs ds) (ht : ∀ d ∈ ds, isT d = true) (hne : (ds.map isT1).all id = false) {Q : SortKind → Shared → Prop} (q : Q (tupKind ds) s) : wpAny (model prog w) A (keyKind' vs.toArray) Q E s := by
  rw [keyKind'_eq, List.mapM_toArray, map_eq_pure_bind]
  refine wpAny_bind (wpAny_bind (firsts_tups e ht fun fs hf => wpAny_pure ?_))
  have hall : (fs.toArray.all fun x => x.isSome) = false := by
    rw [List.all_toArray]
    have : (fs.map fun o => o.isSome).all id = false := by rw [hf]; exact hne
    rw [List.all_map] at this
    exact this
  rw [hall]
  simp only [Bool.false_eq_true, if_false]
  have hfirst : (fs.toArray[0]?.bind id).isSome = ((ds.map isT1).head? == some true) := by
    rw [← hf]
    cases fs with
    | nil => rfl
    | cons o fs => cases o <;> rfl
  rw [hfirst]
  unfold tupKind at q
  by_cases h1 : (ds.map isT1).head? = some true
  · rw [if_pos h1] at q
    rw [if_pos (by rw [h1]; rfl)]
    exact wpAny_pure q
  · rw [if_neg h1] at q
    rw [if_neg (by
      intro z
      exact h1 (by simpa using z))]
    rw [oneTypeOnly'_eq, List.mapM_toArray, map_eq_pure_bind]
    refine wpAny_bind (wpAny_bind (wpAny_bind (PySem.W.kas_mapM (r := Value.type "tuple") vs (fun v hv Q' hq => ?_) (wpAny_pure ?_))))
    · obtain ⟨d, hd, as, r⟩ := PySem.W.EachIs.left e v hv
      have hT : PySem.W.dataType d = Value.type "tuple" := by
        have := ht d hd
        cases d with
        | tuple xs => rfl
        | _ => cases this
      have hL := PySem.W.looks_reads (M := model prog w) r
      rw [hT] at hL
      exact PySem.W.Looks.here hL hq
    · cases vs with
      | nil =>
        have := len_each e
        cases ds with
        | nil => cases hne
        | cons d ds => cases this
      | cons v vs =>
        have hz : ((List.map (fun _ => Value.type "tuple") (v :: vs)).toArray.all fun x => x == Value.type "tuple") = true := by
          rw [List.all_toArray, List.all_map]
          simp
        show wpAny (model prog w) A (pure (if ((List.map (fun _ => Value.type "tuple") (v :: vs)).toArray.all fun x => x == Value.type "tuple") = true then some (Value.type "tuple") else none)) _ E s
        rw [hz]
        exact wpAny_pure (wpAny_pure q)
def Sortable2 (ds : List PyData) : Prop := PySem.W.Sortable ds ∨ ∀ d ∈ ds, isT d = true
theorem sorts2 {vs : List Value} {ds : List PyData} (e : PySem.W.EachIs (fun v d => ∃ as, Reads s.heap v d as) vs ds) (hal : PySem.W.AllAlike ds) (hk : Sortable2 ds) (hu : ∀ d, d ∈ ds → A.units + d.depth < cLine) : PySem.W.SortsAt prog w A s (PySem.W.dataKind s.heap ds) vs := by
  rcases hk with hk | ht
  · exact PySem.W.SortsAt.data e hal hk hu
  cases hne : (ds.map isT1).all id with
  | true =>
    refine PySem.W.SortsAt.data e hal (.inl fun d hd => ?_) hu
    rw [List.all_map, List.all_eq_true] at hne
    have h1 := hne d hd
    cases d with
    | tuple xs =>
      cases xs with
      | nil => cases h1
      | cons x r => exact ⟨x, r, rfl⟩
    | _ => cases h1
  | false =>
    refine ⟨fun v hv => ?_, tupKind ds, fun E x y a b Q ha hb hq => ?_, fun h2 E Q hq => kind_tups_any e ht hne hq⟩
    · obtain ⟨d, hd, as, r⟩ := PySem.W.EachIs.left e v hv
      exact ⟨_, PySem.W.dataKind_some hal hd r⟩
    · obtain ⟨d, as, hd, ra, rfl⟩ := PySem.W.dataKind_inv ha
      obtain ⟨d', as', hd', rb, rfl⟩ := PySem.W.dataKind_inv hb
      have hdd := hal d hd d' hd'
      have hr : A.units + min d.depth d'.depth < cLine := Nat.lt_of_le_of_lt (Nat.add_le_add_left (Nat.min_le_left _ _) _) (hu d hd)
      unfold tupKind
      split
      · have ek : keyLt' general' x y = oneLt' false x y := rfl
        rw [ek]
        exact PySem.W.oneLt_alike (fun z => nomatch z) ra rb hdd (fun z => by subst z; have := ht _ hd; cases this) hr hq
      · rw [keyLt'_oneType]
        have t1 := ht d hd
        have t2 := ht d' hd'
        cases d with
        | tuple xs =>
          cases d' with
          | tuple ys =>
            rw [PySem.W.alike] at hdd
            exact oneLt_tup ra rb hdd hr hq
          | _ => cases t2
        | _ => cases t1
theorem list_sort_data2 {β : Type} {vs : List Value} {bs : List β} {enc : β → PyData} {R : Value → β → Prop} {a : Addr} {n : Nat} {Q : Value → Shared → Prop} (ho : s.heap.get? a = some (seqObj "list" vs.toArray n)) (e1 : PySem.W.EachIs R vs bs)
    (e2 : PySem.W.EachIs (fun v b => ∃ as, Reads (PySem.W.sortingHeap s.heap a vs) v (enc b) as) vs bs) (hal : PySem.W.AllAlike (bs.map enc)) (hk : Sortable2 (bs.map enc)) (hL : bs.length ≤ sizeLine) (hu : ∀ b ∈ bs, A.units + 1 + (enc b).depth < cLine)
    (q : ∀ out : List Value, out.length = bs.length → PySem.W.EachIs R out (bs.mergeSort (PySem.W.dataLe false enc)) → Q .none { heap := sortedHeap s.heap a vs out.toArray, gens := s.gens, drawn := s.drawn, toks := s.toks, os := s.os }) :
    wpAny (model prog w) A (call (.builtin "list.sort") [.ref a]) Q E s := by
  refine wpAny_call_entry_kw slot_list_sort ⟨_, ho, rfl⟩ entry_list_sort ?sb_body (args_list_sort _)
  case sb_body =>
    refine PySem.W.list_sort_vals ho (sorts2 (s := { s with heap := PySem.W.sortingHeap s.heap a vs }) (PySem.W.each_map (R := fun v d => ∃ as, Reads (PySem.W.sortingHeap s.heap a vs) v d as) enc e2) hal hk ?_) (by rw [len_each e1]; exact hL) ?_
    · intro d hd
      obtain ⟨b, hb, rfl⟩ := List.mem_map.mp hd
      exact hu b hb
    · have ev := PySem.W.sortVals_data false e1 e2 hal
      exact ⟨_, rfl, q _ (by rw [len_each ev, List.length_mergeSort]) ev⟩
end
end Sb

/-! P0: values of slots as data, the frame's world, what expressions, tests, arguments, statements evaluate to (functions of slots and of the count of draws). -/
namespace Sb
open PySem PySem.Spec PyProof.Rows L2
/-- what a slot holds, or an expression gives: data that stay; a list of one's own; a list of somebody else's; the state of draws -/
inductive Sv where
  | d (x : PyData) | cell (xs : List PyData) | bor (xs : List PyData) | st
  /-- a value that is known; a dict of one's own, of somebody else's, one that stays (t: its keys are tuples, else ints) -/
  | kn (v : V) | tab (t : Bool) (kvs : List (PyData × PyData)) | btab (t : Bool) (kvs : List (PyData × PyData)) | ktab (t : Bool) (kvs : List (PyData × PyData))
/-- the written part, the program, the world -/
structure KW where
  K : PySem.W.Frag
  P : Program
  w : World
instance : Coe KW PySem.W.Frag := ⟨KW.K⟩
abbrev _root_.L2.Cx.kw (X : Cx) : KW := ⟨X.K, X.prog, X.w⟩
/-- what may change by its one holder -/
def Sv.loose : Sv → Bool
  | .cell _ => true
  | .tab _ _ => true
  | _ => false
def Sv.own : Sv → Bool
  | .d _ => true
  | .cell _ => true
  | .kn _ => true
  | .tab _ _ => true
  | .ktab _ _ => true
  | _ => false
abbrev Ev := List (Option Sv)
abbrev FE := Ev → Nat → Option (Sv × Nat)
abbrev FA := Ev → Nat → Option (List Sv × Nat)
abbrev FT := Ev → Nat → Option (Bool × Nat)
abbrev FF := List Sv → Nat → Option (Sv × Nat)
inductive Fl where
  | nx | rt (v : Sv) | bk | ct
abbrev FS := Ev → Nat → Option (Fl × Ev × Nat)
def big : Nat := 100000
theorem big_le {n : Nat} (h : n ≤ big) : n ≤ sizeLine := Nat.le_trans h (by decide)
/-- as data, to look at -/
def Sv.see : Sv → Option PyData
  | .d x => some x
  | .cell xs => some (.list xs)
  | .bor xs => some (.list xs)
  | _ => none
/-- as data, to keep -/
def Sv.take : Sv → Option PyData
  | .d x => some x
  | .cell xs => some (.list xs)
  | _ => none
/-- as an argument -/
def Sv.arg : Sv → Sv
  | .cell xs => .d (.list xs)
  | .tab t kvs => .ktab t kvs
  | x => x
/-! ### the world of a frame -/
structure Wr (st : Addr) (n : Nat) (I H : Hp) : Prop where
  im : Im I H
  ist : I st = none
  hst : H st = some (.lst (List.replicate n (.int 0)))
structure Xt (st : Addr) (n' : Nat) (I H I' H' : Hp) : Prop where
  w : Wr st n' I' H'
  ii : Same I I'
  hh : ∀ b o, b ≠ st → H b = some o → H' b = some o
  old : ∀ b o, H b = some o → I' b = I b
theorem Xt.refl {st n I H} (w : Wr st n I H) : Xt st n I H I H := ⟨w, Same.refl _, fun _ _ _ h => h, fun _ _ _ => rfl⟩
theorem Xt.trans {st n1 n2 I H I1 H1 I2 H2} (a : Xt st n1 I H I1 H1) (b : Xt st n2 I1 H1 I2 H2) : Xt st n2 I H I2 H2 := by
  refine ⟨b.w, a.ii.trans b.ii, fun c o n e => b.hh c o n (a.hh c o n e), fun c o e => ?_⟩
  by_cases h : c = st
  · subst h
    rw [b.w.ist, ← a.old c o e, a.w.ist]
  · exact (b.old c o (a.hh c o h e)).trans (a.old c o e)
/-- an address that is new -/
theorem Xt.free {st n I H I' H' p} (x : Xt st n I H I' H') (hp : H' p = none) (hs : p ≠ st) : H p = none := by
  cases q : H p with
  | none => rfl
  | some o => rw [x.hh p o hs q] at hp; cases hp
theorem Wr.ne_st {st n I H p} (w : Wr st n I H) (hp : H p = none) : p ≠ st := fun e => by
  rw [e, w.hst] at hp
  cases hp
theorem Wr.ine {st n I H p} (w : Wr st n I H) (hp : H p = none) : I p = none := w.im.sub.free hp
/-- something new that stays -/
theorem Xt.lay {st n I H p o} (w : Wr st n I H) (hp : H p = none) : Xt st n I H (upd I p o) (upd H p o) := by
  have e := Ext.lay (o := o) w.im hp
  have hs := w.ne_st hp
  exact ⟨⟨e.im, by rw [upd_ne hs.symm]; exact w.ist, by rw [upd_ne hs.symm]; exact w.hst⟩, e.ii, fun b o _ h => e.hh b o h, e.old⟩
/-- a new list of one's own -/
theorem Xt.cell {st n I H p xs} (w : Wr st n I H) (hp : H p = none) : Xt st n I H I (upd H p (.lst xs)) := by
  have e := Ext.cell (xs := xs) w.im hp
  have hs := w.ne_st hp
  exact ⟨⟨e.im, w.ist, by rw [upd_ne hs.symm]; exact w.hst⟩, e.ii, fun b o _ h => e.hh b o h, e.old⟩
/-- a list of one's own is changed; it is new since I H -/
theorem Xt.put {st n I H I' H' p xs} (x : Xt st n I H I' H') (hp : H p = none) (ip : I' p = none) (hs : p ≠ st) : Xt st n I H I' (upd H' p (.lst xs)) :=
  ⟨⟨x.w.im.put ip, x.w.ist, by rw [upd_ne hs.symm]; exact x.w.hst⟩, x.ii, fun b o hb h => by rw [upd_ne (ne_of_none h hp)]; exact x.hh b o hb h, x.old⟩
/-- a list of one's own is changed no more -/
theorem Xt.freeze {st n I H I' H' p xs} (x : Xt st n I H I' H') (hp : H p = none) (hs : p ≠ st) (h : H' p = some (.lst xs)) : Xt st n I H (upd I' p (.lst xs)) H' := by
  refine ⟨⟨x.w.im.freeze h, by rw [upd_ne hs.symm]; exact x.w.ist, x.w.hst⟩, fun b o e => ?_, x.hh, fun b o e => ?_⟩
  · by_cases q : b = p
    · subst q
      rw [upd_same]
      rw [x.w.im.sub _ _ (x.ii _ _ e)] at h
      exact h.symm
    · rw [upd_ne q]
      exact x.ii _ _ e
  · rw [upd_ne (ne_of_none e hp)]
    exact x.old _ _ e
/-- the same of anything but a tuple -/
theorem Im.putO {I H : Hp} {p : Addr} {o : HO} (m : Im I H) (ip : I p = none) (no : ∀ xs, o ≠ .tup xs) : Im I (upd H p o) := by
  refine ⟨fun b x e => ?_, fun b ys e => ?_⟩
  · rw [upd_ne (ne_of_none e ip)]
    exact m.sub _ _ e
  · by_cases h : b = p
    · subst h
      rw [upd_same] at e
      exact absurd (Option.some.inj e) (no ys)
    · rw [upd_ne h] at e
      exact m.tup _ _ e
theorem Im.freezeO {I H : Hp} {p : Addr} {o : HO} (m : Im I H) (hp : H p = some o) (no : ∀ xs, o ≠ .tup xs) : Im (upd I p o) H := by
  refine ⟨fun b u e => ?_, fun b xs e => ?_⟩
  · by_cases h : b = p
    · subst h
      rw [upd_same] at e
      cases e
      exact hp
    · rw [upd_ne h] at e
      exact m.sub _ _ e
  · rw [upd_ne (ne_of e hp (fun z => no xs z.symm))]
    exact m.tup _ _ e
theorem Xt.putO {st n I H I' H' p o} (x : Xt st n I H I' H') (hp : H p = none) (ip : I' p = none) (hs : p ≠ st) (no : ∀ xs, o ≠ .tup xs) : Xt st n I H I' (upd H' p o) :=
  ⟨⟨x.w.im.putO ip no, x.w.ist, by rw [upd_ne hs.symm]; exact x.w.hst⟩, x.ii, fun b o hb h => by rw [upd_ne (ne_of_none h hp)]; exact x.hh b o hb h, x.old⟩
theorem Xt.freezeO {st n I H I' H' p o} (x : Xt st n I H I' H') (hp : H p = none) (hs : p ≠ st) (h : H' p = some o) (no : ∀ xs, o ≠ .tup xs) : Xt st n I H (upd I' p o) H' := by
  refine ⟨⟨x.w.im.freezeO h no, by rw [upd_ne hs.symm]; exact x.w.ist, x.w.hst⟩, fun b o e => ?_, x.hh, fun b o e => ?_⟩
  · by_cases q : b = p
    · subst q
      rw [upd_same]
      rw [x.w.im.sub _ _ (x.ii _ _ e)] at h
      exact h.symm
    · rw [upd_ne q]
      exact x.ii _ _ e
  · rw [upd_ne (ne_of_none e hp)]
    exact x.old _ _ e
/-- the state has grown -/
theorem Xt.draw {st n I H} (w : Wr st n I H) : Xt st (n + 1) I H I (upd H st (.lst (List.replicate n (.int 0) ++ [.int 0]))) :=
  ⟨⟨w.im.put w.ist, w.ist, by rw [upd_same, List.replicate_succ']⟩, Same.refl _, fun b o hb h => by rw [upd_ne hb]; exact h, fun _ _ _ => rfl⟩

/-! ### values -/
/-! dicts: keys as data, the object -/
mutual
def nk : PyData → Option NestedKey
  | .none => some .none
  | .int i => some (.num i)
  | .str x => some (.text x)
  | .tuple xs => match nks xs with
    | some ks => some (.tup ks)
    | none => none
  | _ => none
def nks : List PyData → Option (List NestedKey)
  | [] => some []
  | x :: xs => match nk x, nks xs with
    | some k, some ks => some (k :: ks)
    | _, _ => none
end
/-- a key of a dict whose keys are tuples (t), ints -/
def nkT (d : PyData) : Option NestedKey := match d with
  | .tuple xs => (match nk (.tuple xs) with
    | some k => if k.depth ≤ 8 then some k else none
    | none => none)
  | _ => none
def keyH (W : KW) (t : Bool) (d : PyData) : Option Int := if t = true then (match nkT d with
    | some k => some (k.hash W.w)
    | none => none) else (match d with
    | .int i => some (hashInt i)
    | _ => none)
def keyOk (t : Bool) (d : PyData) : Bool := if t = true then (nkT d).isSome else (match d with
    | .int _ => true
    | _ => false)
/-- a thing whose object is known -/
def rawO (p : Addr) (o : Obj) : HO := .ext fun h => h.get? p = some o
theorem rawO_tup {p : Addr} {o : Obj} : ∀ xs, rawO p o ≠ .tup xs := fun _ z => nomatch z
def EntR (W : KW) (I : Hp) (t : Bool) (kv : PyData × PyData) (e : DictEntry) : Prop := ∃ a b, RelV a e.key ∧ RelV b e.val ∧ Dp W I a kv.1 ∧ Dp W I b kv.2 ∧ keyH W t kv.1 = some e.hash
structure TabR (W : KW) (I : Hp) (p : Addr) (o : Obj) (t : Bool) (kvs : List (PyData × PyData)) : Prop where
  ns : (p == sysModules) = false
  ex : o.ExactDict
  len : kvs.length ≤ big
  nd : (kvs.map (·.1)).Nodup
  en : ∃ es ep, o.data = .dict es ep ∧ Paired (EntR W I t) kvs es.toList
theorem TabR.mono {W : KW} {I I' : Hp} {p o t kvs} (s : Same I I') (h : TabR W I p o t kvs) : TabR W I' p o t kvs := by
  obtain ⟨es, ep, e, q⟩ := h.en
  exact ⟨h.ns, h.ex, h.len, h.nd, es, ep, e, Paired.mapP q fun kv en ⟨a, b, h1, h2, h3, h4, h5⟩ => ⟨a, b, h1, h2, Dp.mono s _ _ h3, Dp.mono s _ _ h4, h5⟩⟩
def SvR (K : KW) (st : Addr) (I H : Hp) (v : V) : Sv → Prop
  | .d x => Dp K I v x
  | .cell xs => ∃ p vs, v = .ref p ∧ H p = some (.lst vs) ∧ I p = none ∧ p ≠ st ∧ DpAll K I vs xs
  | .bor xs => ∃ p vs, v = .ref p ∧ H p = some (.lst vs) ∧ I p = none ∧ p ≠ st ∧ DpAll K I vs xs
  | .st => v = .ref st
  | .kn u => v = u
  | .tab t kvs => ∃ p o, v = .ref p ∧ H p = some (rawO p o) ∧ I p = none ∧ p ≠ st ∧ TabR K I p o t kvs
  | .btab t kvs => ∃ p o, v = .ref p ∧ H p = some (rawO p o) ∧ I p = none ∧ p ≠ st ∧ TabR K I p o t kvs
  | .ktab t kvs => ∃ p o, v = .ref p ∧ I p = some (rawO p o) ∧ TabR K I p o t kvs
/-- a list of one's own is new -/
def Fr (H : Hp) (v : V) : Sv → Prop
  | .cell _ => ∀ p, v = .ref p → H p = none
  | .tab _ _ => ∀ p, v = .ref p → H p = none
  | _ => True
section
variable {K : KW} {st : Addr} {n n' : Nat} {I H I' H' H0 I0 : Hp} {v : V} {sv : Sv}
theorem SvR.mono (x : Xt st n I H I' H') (h : SvR K st I H v sv) : SvR K st I' H' v sv := by
  cases sv with
  | d d => exact Dp.mono x.ii _ _ h
  | cell xs =>
    obtain ⟨p, vs, e, h1, h2, h3, h4⟩ := h
    exact ⟨p, vs, e, x.hh _ _ h3 h1, by rw [x.old _ _ h1]; exact h2, h3, DpAll.mono x.ii _ _ h4⟩
  | bor xs =>
    obtain ⟨p, vs, e, h1, h2, h3, h4⟩ := h
    exact ⟨p, vs, e, x.hh _ _ h3 h1, by rw [x.old _ _ h1]; exact h2, h3, DpAll.mono x.ii _ _ h4⟩
  | st => exact h
  | kn u => exact h
  | tab t kvs =>
    obtain ⟨p, vs, e, h1, h2, h3, h4⟩ := h
    exact ⟨p, vs, e, x.hh _ _ h3 h1, by rw [x.old _ _ h1]; exact h2, h3, h4.mono x.ii⟩
  | btab t kvs =>
    obtain ⟨p, vs, e, h1, h2, h3, h4⟩ := h
    exact ⟨p, vs, e, x.hh _ _ h3 h1, by rw [x.old _ _ h1]; exact h2, h3, h4.mono x.ii⟩
  | ktab t kvs =>
    obtain ⟨p, o, e, h1, h2⟩ := h
    exact ⟨p, o, e, x.ii _ _ h1, h2.mono x.ii⟩
theorem Fr.back {I'' H'' : Hp} (x : Xt st n I H I' H') (r : SvR K st I'' H'' v sv) (h : Fr H' v sv) : Fr H v sv := by
  cases sv with
  | cell xs =>
    obtain ⟨p, vs, e, h1, h2, h3, h4⟩ := r
    intro q eq
    have e2 : p = q := V.ref.inj (e.symm.trans eq)
    subst e2
    exact x.free (h p e) h3
  | tab t kvs =>
    obtain ⟨p, vs, e, h1, h2, h3, h4⟩ := r
    intro q eq
    have e2 : p = q := V.ref.inj (e.symm.trans eq)
    subst e2
    exact x.free (h p e) h3
  | d _ => trivial
  | bor _ => trivial
  | st => trivial
  | kn _ => trivial
  | btab _ _ => trivial
  | ktab _ _ => trivial
/-- what is looked at: data of the heap as it stands, its items kept ones -/
def See (K : KW) (I H : Hp) (v : V) (d : PyData) : Prop := Dp K I v d ∨ ∃ p vs xs, v = .ref p ∧ d = .list xs ∧ H p = some (.lst vs) ∧ DpAll K I vs xs
theorem SvR.see {d : PyData} (h : SvR K st I H v sv) (e : sv.see = some d) : See K I H v d := by
  cases sv with
  | d x => cases e; exact .inl h
  | cell xs => cases e; obtain ⟨p, vs, e, h1, _, _, h4⟩ := h; exact .inr ⟨p, vs, xs, e, rfl, h1, h4⟩
  | bor xs => cases e; obtain ⟨p, vs, e, h1, _, _, h4⟩ := h; exact .inr ⟨p, vs, xs, e, rfl, h1, h4⟩
  | st => cases e
  | kn _ => cases e
  | tab _ _ => cases e
  | btab _ _ => cases e
  | ktab _ _ => cases e
theorem See.dp {d : PyData} (m : Im I H) (h : See K I H v d) : Dp K H v d := by
  rcases h with h | ⟨p, vs, xs, rfl, rfl, h1, h2⟩
  · exact Dp.mono m.sub _ _ h
  · exact .lst (SqL.of h1) (DpAll.mono m.sub _ _ h2)
theorem See.mono {d : PyData} (x : Xt st n I H I' H') (hst : v ≠ .ref st) (h : See K I H v d) : See K I' H' v d := by
  rcases h with h | ⟨p, vs, xs, rfl, rfl, h1, h2⟩
  · exact .inl (Dp.mono x.ii _ _ h)
  · exact .inr ⟨p, vs, xs, rfl, rfl, x.hh _ _ (fun e => hst (by rw [e])) h1, DpAll.mono x.ii _ _ h2⟩
theorem See.int {i : Int} (h : See K I H v (.int i)) : v = .int i := by
  rcases h with h | ⟨_, _, _, _, e, _⟩
  · cases h; rfl
  · cases e
theorem See.bool {i : Bool} (h : See K I H v (.bool i)) : v = .bl i := by
  rcases h with h | ⟨_, _, _, _, e, _⟩
  · cases h; rfl
  · cases e
theorem See.str {i : Str} (h : See K I H v (.str i)) : v = .str i := by
  rcases h with h | ⟨_, _, _, _, e, _⟩
  · cases h; rfl
  · cases e
theorem See.none (h : See K I H v .none) : v = .non := by
  rcases h with h | ⟨_, _, _, _, e, _⟩
  · cases h; rfl
  · cases e
theorem See.lst {xs : List PyData} (m : Im I H) (h : See K I H v (.list xs)) : ∃ p vs, v = .ref p ∧ SqL K H p vs ∧ DpAll K I vs xs := by
  rcases h with h | ⟨p, vs, ys, e, e2, h1, h2⟩
  · cases h with
    | lst h1 h2 => exact ⟨_, _, rfl, m.sub.seq h1, h2⟩
  · cases e2; exact ⟨p, vs, e, SqL.of h1, h2⟩
theorem See.tup {xs : List PyData} (m : Im I H) (h : See K I H v (.tuple xs)) : ∃ p vs, v = .ref p ∧ SqT K H p vs ∧ SqT K I p vs ∧ DpAll K I vs xs := by
  rcases h with h | ⟨p, vs, ys, e, e2, h1, h2⟩
  · cases h with
    | tup h1 h2 => exact ⟨_, _, rfl, ex_sqT m.sub h1, h1, h2⟩
  · cases e2
/-- kept from now on -/
theorem SvR.keep {d : PyData} (x : Xt st n I H I' H') (h : SvR K st I' H' v sv) (f : Fr H v sv) (e : sv.take = some d) : ∃ I'', Xt st n I H I'' H' ∧ Same I' I'' ∧ Dp K I'' v d := by
  cases sv with
  | d y => cases e; exact ⟨I', x, Same.refl _, h⟩
  | cell xs =>
    cases e
    obtain ⟨p, vs, e, h1, h2, h3, h4⟩ := h
    subst e
    have s2 : Same I' (upd I' p (.lst vs)) := same_new h2
    exact ⟨_, x.freeze (f p rfl) h3 h1, s2, .lst (SqL.of upd_same) (DpAll.mono s2 _ _ h4)⟩
  | bor xs => cases e
  | st => cases e
  | kn _ => cases e
  | tab _ _ => cases e
  | btab _ _ => cases e
  | ktab _ _ => cases e
/-- as an argument -/
theorem SvR.argOf (x : Xt st n I H I' H') (h : SvR K st I' H' v sv) (f : Fr H v sv) : ∃ I'', Xt st n I H I'' H' ∧ SvR K st I'' H' v sv.arg := by
  cases sv with
  | d y => exact ⟨I', x, h⟩
  | cell xs => obtain ⟨I'', x2, _, k⟩ := SvR.keep (d := .list xs) x h f rfl; exact ⟨I'', x2, k⟩
  | bor xs => exact ⟨I', x, h⟩
  | st => exact ⟨I', x, h⟩
  | kn _ => exact ⟨I', x, h⟩
  | btab _ _ => exact ⟨I', x, h⟩
  | ktab _ _ => exact ⟨I', x, h⟩
  | tab t kvs =>
    obtain ⟨p, o, e, h1, h2, h3, h4⟩ := h
    exact ⟨_, x.freezeO (f p e) h3 h1 rawO_tup, p, o, e, upd_same, h4.mono (same_new h2)⟩
end
/-! ### slots -/
def Own (H0 : Hp) (v : V) : Sv → Prop
  | .cell _ => ∀ p, v = .ref p → H0 p = none
  | .tab _ _ => ∀ p, v = .ref p → H0 p = none
  | .bor _ => ∀ p, v = .ref p → (H0 p).isSome
  | .btab _ _ => ∀ p, v = .ref p → (H0 p).isSome
  | _ => True
structure Er (K : KW) (st : Addr) (H0 I H : Hp) (σ : L2.St) (e : Ev) : Prop where
  len : σ.length = e.length
  at_ : ∀ (i : Nat) (sv : Sv), e[i]? = some (some sv) → ∃ v, σ[i]? = some (some v) ∧ SvR K st I H v sv ∧ Own H0 v sv
  ap : ∀ (i j : Nat) (sv sv' : Sv) (p : Addr), i ≠ j → e[i]? = some (some sv) → e[j]? = some (some sv') → sv.loose = true → sv'.loose = true → σ[i]? = some (some (.ref p)) → σ[j]? ≠ some (some (.ref p))
section
variable {K : KW} {st : Addr} {n n' : Nat} {I H I' H' H0 I0 : Hp} {v : V} {sv : Sv} {σ : L2.St} {e : Ev}
theorem Er.mono (E : Er K st H0 I H σ e) (x : Xt st n I H I' H') : Er K st H0 I' H' σ e :=
  ⟨E.len, fun i sv q => by obtain ⟨v, h1, h2, h3⟩ := E.at_ i sv q; exact ⟨v, h1, SvR.mono x h2, h3⟩, E.ap⟩
/-- a slot gets data -/
theorem Er.set (E : Er K st H0 I H σ e) (i : Nat) (h : SvR K st I H v sv) (o : Own H0 v sv)
    (hn : ∀ p j sv', sv.loose = true → v = .ref p → j ≠ i → e[j]? = some (some sv') → sv'.loose = true → σ[j]? ≠ some (some (.ref p))) : Er K st H0 I H (σ.set i (some v)) (e.set i (some sv)) := by
  refine ⟨by rw [List.length_set, List.length_set]; exact E.len, fun j sv2 q => ?_, fun j k xs ys p hjk q1 q2 l1 l2 q3 => ?_⟩
  · by_cases hj : i = j
    · subst hj
      have hl : i < e.length := by
        have := (List.getElem?_eq_some_iff.mp q).1
        simpa using this
      rw [List.getElem?_set_self hl] at q
      cases q
      exact ⟨v, List.getElem?_set_self (by rw [E.len]; exact hl), h, o⟩
    · rw [List.getElem?_set_ne hj] at q
      rw [List.getElem?_set_ne hj]
      exact E.at_ j sv2 q
  · by_cases hj : i = j
    · subst hj
      have hk : i ≠ k := hjk
      have hl : i < e.length := by
        have := (List.getElem?_eq_some_iff.mp q1).1
        simpa using this
      rw [List.getElem?_set_self hl] at q1
      rw [List.getElem?_set_self (by rw [E.len]; exact hl)] at q3
      rw [List.getElem?_set_ne hk] at q2 ⊢
      cases q1
      exact hn p k ys l1 (Option.some.inj (Option.some.inj q3)) hk.symm q2 l2
    · by_cases hk : i = k
      · subst hk
        have hl : i < e.length := by
          have := (List.getElem?_eq_some_iff.mp q2).1
          simpa using this
        rw [List.getElem?_set_self hl] at q2
        rw [List.getElem?_set_self (by rw [E.len]; exact hl)]
        rw [List.getElem?_set_ne hj] at q1 q3
        cases q2
        intro z
        exact hn p j xs l2 (Option.some.inj (Option.some.inj z)) (Ne.symm hj) q1 l1 q3
      · rw [List.getElem?_set_ne hj] at q1 q3
        rw [List.getElem?_set_ne hk] at q2 ⊢
        exact E.ap j k xs ys p hjk q1 q2 l1 l2 q3
theorem Er.setD {d : PyData} (E : Er K st H0 I H σ e) (i : Nat) (h : Dp K I v d) : Er K st H0 I H (σ.set i (some v)) (e.set i (some (.d d))) :=
  E.set i (sv := .d d) h trivial (fun _ _ _ z => nomatch z)
theorem SvR.at {p : Addr} (h : SvR K st I H v sv) (l : sv.loose = true) (e : v = .ref p) : ∃ o, H p = some o := by
  cases sv with
  | cell xs => obtain ⟨q, vs, e2, h1, _⟩ := h; cases e2.symm.trans e; exact ⟨_, h1⟩
  | tab t kvs => obtain ⟨q, vs, e2, h1, _⟩ := h; cases e2.symm.trans e; exact ⟨_, h1⟩
  | d _ => cases l
  | bor _ => cases l
  | st => cases l
  | kn _ => cases l
  | btab _ _ => cases l
  | ktab _ _ => cases l
/-- a new list of one's own -/
theorem Er.setNew {m : Nat} (E : Er K st H0 I H σ e) (x : Xt st n I H I' H') (x0 : Xt st m I0 H0 I H) (i : Nat) (h : SvR K st I' H' v sv) (f : Fr H v sv) (nb : sv.own = true) : Er K st H0 I' H' (σ.set i (some v)) (e.set i (some sv)) := by
  refine (E.mono x).set i h ?_ (fun p j ys l1 e2 hj q1 l2 q2 => ?_)
  · cases sv with
    | cell xs =>
      intro p ep
      obtain ⟨p2, vs, e2, _, _, h3, _⟩ := h
      have : p = p2 := V.ref.inj (ep.symm.trans e2)
      subst this
      exact x0.free (f p ep) h3
    | tab t kvs =>
      intro p ep
      obtain ⟨p2, vs, e2, _, _, h3, _⟩ := h
      have : p = p2 := V.ref.inj (ep.symm.trans e2)
      subst this
      exact x0.free (f p ep) h3
    | bor xs => cases nb
    | btab _ _ => cases nb
    | d _ => trivial
    | st => trivial
    | kn _ => trivial
    | ktab _ _ => trivial
  · obtain ⟨v2, h1, h2, _⟩ := E.at_ j _ q1
    rw [q2] at h1
    cases h1
    obtain ⟨o, ho⟩ := SvR.at h2 l2 rfl
    have g : H p = none := by
      cases sv with
      | cell xs => exact f p e2
      | tab t kvs => exact f p e2
      | d _ => cases l1
      | bor _ => cases l1
      | st => cases l1
      | kn _ => cases l1
      | btab _ _ => cases l1
      | ktab _ _ => cases l1
    rw [g] at ho
    cases ho
/-- forget slots -/
def wipeE (e : Ev) : List Nat → Ev
  | [] => e
  | i :: is => (wipeE e is).set i none
theorem wipeE_len (e : Ev) : ∀ is, (wipeE e is).length = e.length
  | [] => rfl
  | i :: is => by rw [wipeE, List.length_set, wipeE_len e is]
theorem wipeE_some {e : Ev} {j : Nat} {sv : Sv} : ∀ {is : List Nat}, (wipeE e is)[j]? = some (some sv) → e[j]? = some (some sv) ∧ j ∉ is
  | [], h => ⟨h, List.not_mem_nil⟩
  | i :: is, h => by
    rw [wipeE] at h
    by_cases hj : i = j
    · subst hj
      have hl : i < (wipeE e is).length := by
        have := (List.getElem?_eq_some_iff.mp h).1
        simpa using this
      rw [List.getElem?_set_self hl] at h
      cases h
    · rw [List.getElem?_set_ne hj] at h
      obtain ⟨h1, h2⟩ := wipeE_some h
      exact ⟨h1, by simp only [List.mem_cons, not_or]; exact ⟨fun q => hj q.symm, h2⟩⟩
theorem Er.wipeE (E : Er K st H0 I H σ e) (is : List Nat) : Er K st H0 I H σ (wipeE e is) :=
  ⟨by rw [wipeE_len]; exact E.len, fun i sv q => E.at_ i sv (wipeE_some q).1, fun i j xs ys p h q1 q2 => E.ap i j xs ys p h (wipeE_some q1).1 (wipeE_some q2).1⟩
theorem wipe_get {σ : L2.St} {j : Nat} : ∀ {is : List Nat}, j ∉ is → (wipe σ is)[j]? = σ[j]?
  | [], _ => rfl
  | i :: is, h => by
    simp only [List.mem_cons, not_or] at h
    rw [wipe, List.getElem?_set_ne (fun q => h.1 q.symm)]
    exact wipe_get h.2
theorem Er.wipe (E : Er K st H0 I H σ e) (is : List Nat) : Er K st H0 I H (wipe σ is) (Sb.wipeE e is) := by
  refine ⟨by rw [wipe_length, wipeE_len]; exact E.len, fun i sv q => ?_, fun i j xs ys p h q1 q2 l1 l2 q3 => ?_⟩
  · obtain ⟨q1, q2⟩ := wipeE_some q
    rw [wipe_get q2]
    exact E.at_ i sv q1
  · obtain ⟨a1, a2⟩ := wipeE_some q1
    obtain ⟨b1, b2⟩ := wipeE_some q2
    rw [wipe_get a2] at q3
    rw [wipe_get b2]
    exact E.ap i j xs ys p h a1 b1 l1 l2 q3
end
/-! ### arguments -/
inductive ArgsR (K : KW) (st : Addr) (I H : Hp) : List V → List Sv → Prop
  | nil : ArgsR K st I H [] []
  | cons {v vs a as} : SvR K st I H v a → a.loose = false → ArgsR K st I H vs as → ArgsR K st I H (v :: vs) (a :: as)
theorem ArgsR.mono {K : KW} {st n I H I' H'} (x : Xt st n I H I' H') : ∀ {vs as}, ArgsR K st I H vs as → ArgsR K st I' H' vs as
  | _, _, .nil => .nil
  | _, _, .cons h1 h2 h3 => .cons (SvR.mono x h1) h2 (ArgsR.mono x h3)
theorem ArgsR.len {K : KW} {st I H} : ∀ {vs as}, ArgsR K st I H vs as → vs.length = as.length
  | _, _, .nil => rfl
  | _, _, .cons _ _ h => by rw [List.length_cons, List.length_cons, ArgsR.len h]
theorem arg_nocell (sv : Sv) : sv.arg.loose = false := by
  cases sv <;> rfl
/-- all kept data -/
def keepAll : List Sv → Option (List PyData)
  | [] => some []
  | .d x :: r => match keepAll r with
    | some xs => some (x :: xs)
    | none => none
  | _ :: _ => none
theorem ArgsR.keepAll {K : KW} {st I H} : ∀ {vs as ds}, ArgsR K st I H vs as → keepAll as = some ds → DpAll K I vs ds
  | _, _, _, .nil, e => by cases e; exact .nil
  | _, _, ds, .cons (a := a) (as := as) h1 _ h3, e => by
    cases a with
    | d x =>
      unfold Sb.keepAll at e
      cases q : Sb.keepAll as with
      | none => rw [q] at e; cases e
      | some xs => rw [q] at e; cases e; exact .cons h1 (ArgsR.keepAll h3 q)
    | cell _ => cases e
    | bor _ => cases e
    | st => cases e
    | kn _ => cases e
    | tab _ _ => cases e
    | btab _ _ => cases e
    | ktab _ _ => cases e
/-! ### the judgements' readings -/
def tE (K : KW) (f : FE) : TE := fun σ H Q => ∃ st n H0 I e, Wr st n I H ∧ Er K st H0 I H σ e ∧ ∃ sv n', f e n = some (sv, n') ∧ ∀ v I' H', Xt st n' I H I' H' → SvR K st I' H' v sv → Fr H v sv → Q v H'
def tAs (K : KW) (f : FA) : TA := fun σ H Q => ∃ st n H0 I e, Wr st n I H ∧ Er K st H0 I H σ e ∧ ∃ as n', f e n = some (as, n') ∧ ∀ vs I' H', Xt st n' I H I' H' → ArgsR K st I' H' vs as → Q vs H'
def tTs (K : KW) (f : FT) : TT := fun σ H Q => ∃ st n H0 I e, Wr st n I H ∧ Er K st H0 I H σ e ∧ ∃ b n', f e n = some (b, n') ∧ ∀ I' H', Xt st n' I H I' H' → Q b H'
def Fin (K : KW) (st : Addr) (I0 H0 I : Hp) (D : Ends) (fl : Fl) (e' : Ev) (n' : Nat) : Prop :=
  match fl with
  | .nx => ∀ σ' I' H', Xt st n' I0 H0 I' H' → Er K st H0 I' H' σ' e' → Same I I' → D.nx σ' H'
  | .rt sv => ∀ v I' H', Xt st n' I0 H0 I' H' → SvR K st I' H' v sv → Fr H0 v sv → D.rt v H'
  | .bk => ∀ σ' I' H', Xt st n' I0 H0 I' H' → Er K st H0 I' H' σ' e' → Same I I' → D.bk σ' H'
  | .ct => ∀ σ' I' H', Xt st n' I0 H0 I' H' → Er K st H0 I' H' σ' e' → Same I I' → D.ct σ' H'
theorem Fin.up {K : KW} {st I0 H0 I I1 D fl e' n'} (s : Same I I1) (h : Fin K st I0 H0 I D fl e' n') : Fin K st I0 H0 I1 D fl e' n' := by
  cases fl with
  | nx => exact fun σ' I' H' x E s' => h σ' I' H' x E (s.trans s')
  | rt v => exact h
  | bk => exact fun σ' I' H' x E s' => h σ' I' H' x E (s.trans s')
  | ct => exact fun σ' I' H' x E s' => h σ' I' H' x E (s.trans s')
def tSs (K : KW) (f : FS) : TS := fun D σ H => ∃ st n I0 H0 I e, Xt st n I0 H0 I H ∧ Er K st H0 I H σ e ∧ ∃ fl e' n', f e n = some (fl, e', n') ∧ Fin K st I0 H0 I D fl e' n'
/-- a def's promise -/
def spF (K : KW) (np : Nat) (f : FF) : Sp := fun vs H Q _ => vs.length = np ∧ ∃ st n I as, Wr st n I H ∧ ArgsR K st I H vs as ∧ ∃ sv n', f as n = some (sv, n') ∧ ∀ v I' H', Xt st n' I H I' H' → SvR K st I' H' v sv → Fr H v sv → Q v H'
section
variable {X : Cx} {e : Expr} {t u : TE}
theorem _root_.L2.PE.by {t u : TE} (h : PE X e t) (k : ∀ σ H Q, u σ H Q → t σ H Q) : PE X e u := ⟨fun pins s σ H Q I q => h.run pins s σ H Q I (k σ H Q q)⟩
theorem _root_.L2.PT.by {t u : TT} (h : PT X e t) (k : ∀ σ H Q, u σ H Q → t σ H Q) : PT X e u := ⟨fun pins s σ H Q I q => h.run pins s σ H Q I (k σ H Q q)⟩
theorem _root_.L2.PA.by {es : List Expr} {t u : TA} (h : PA X es t) (k : ∀ σ H Q, u σ H Q → t σ H Q) : PA X es u := ⟨fun pos pins s σ H Q I q => h.run pos pins s σ H Q I (k σ H Q q)⟩
theorem _root_.L2.PS.by {st : Stmt} {t u : TS} (h : PS X st t) (k : ∀ D σ H, u D σ H → t D σ H) : PS X st u := ⟨fun pins s σ H D I q => h.run pins s σ H D I (k D σ H q)⟩
theorem _root_.L2.PSs.by {st : List Stmt} {t u : TS} (h : PSs X st t) (k : ∀ D σ H, u D σ H → t D σ H) : PSs X st u := ⟨fun pins s σ H D I q => h.run pins s σ H D I (k D σ H q)⟩
theorem _root_.L2.PI.by {tg it : Expr} {t u : TI} (h : PI X tg it t) (k : ∀ σ H R, u σ H R → t σ H R) : PI X tg it u := ⟨fun pins s σ H R I q => h.run pins s σ H R I (k σ H R q)⟩
theorem _root_.L2.PTs.by {ifs : List Expr} {t u : TT} (h : PTs X ifs t) (k : ∀ σ H Q, u σ H Q → t σ H Q) : PTs X ifs u := ⟨fun pins s σ H Q I q => h.run pins s σ H Q I (k σ H Q q)⟩
end
end Sb

/-! P1: expressions. -/
namespace Sb
open PySem PySem.Spec PyProof.Rows L2
section
variable {X : Cx} {e e2 e3 : Expr} {es : List Expr} {f g : FE} {fa : FA} {ft fu : FT}
/-! ### names, constants -/
def fVar (i : Nat) : FE := fun e n => match e[i]? with
  | some (some (.d x)) => some (.d x, n)
  | some (some (.cell xs)) => some (.bor xs, n)
  | some (some (.bor xs)) => some (.bor xs, n)
  | some (some .st) => some (.st, n)
  | some (some (.kn u)) => some (.kn u, n)
  | some (some (.tab t kvs)) => some (.btab t kvs, n)
  | some (some (.btab t kvs)) => some (.btab t kvs, n)
  | some (some (.ktab t kvs)) => some (.ktab t kvs, n)
  | _ => none
theorem e_var {i : Nat} (h : PE X e (tVar i)) : PE X e (tE X.kw (fVar i)) := h.by fun σ H Q ⟨st, n, H0, I, ev, w, E, sv, n', q, k⟩ => by
  unfold fVar at q
  cases q0 : ev[i]? with
  | none => rw [q0] at q; cases q
  | some o =>
    rw [q0] at q
    cases o with
    | none => cases q
    | some s0 =>
      obtain ⟨v, h1, h2, h3⟩ := E.at_ i s0 q0
      refine ⟨v, h1, ?_⟩
      cases s0 with
      | d x => cases q; exact k v I H (.refl w) h2 trivial
      | cell x => cases q; exact k v I H (.refl w) h2 trivial
      | bor x => cases q; exact k v I H (.refl w) h2 trivial
      | st => cases q; exact k v I H (.refl w) h2 trivial
      | kn _ => cases q; exact k v I H (.refl w) h2 trivial
      | tab _ _ => cases q; exact k v I H (.refl w) h2 trivial
      | btab _ _ => cases q; exact k v I H (.refl w) h2 trivial
      | ktab _ _ => cases q; exact k v I H (.refl w) h2 trivial
def fC (d : PyData) : FE := fun _ n => some (.d d, n)
theorem e_cst {v : V} {d : PyData} (h : PE X e (tC v)) (r : ∀ I, Dp X.K I v d) : PE X e (tE X.kw (fC d)) := h.by fun σ H Q ⟨st, n, H0, I, ev, w, E, sv, n', q, k⟩ => by
  cases q
  exact k v I H (.refl w) (r I) trivial
theorem e_int {i j pos} : PE X (.Constant (.int i) j pos) (tE X.kw (fC (.int i))) := e_cst pe_int fun _ => .int i
theorem e_bl {b j pos} : PE X (.Constant (.bool b) j pos) (tE X.kw (fC (.bool b))) := e_cst pe_bl fun _ => .bl b
theorem e_non {j pos} : PE X (.Constant .none j pos) (tE X.kw (fC .none)) := e_cst pe_non fun _ => .non
theorem e_str {x j pos} : PE X (.Constant (.str x) j pos) (tE X.kw (fC (.str x))) := e_cst pe_str fun _ => .str x
/-! ### two operands -/
def fOp2 (g : Sv → Sv → Option Sv) (f1 f2 : FE) : FE := fun e n => match f1 e n with
  | none => none
  | some (a, n1) => match f2 e n1 with
    | none => none
    | some (b, n2) => match g a b with
      | none => none
      | some c => some (c, n2)
theorem fOp2_eq {g : Sv → Sv → Option Sv} {f1 f2 : FE} {e n sv n'} (h : fOp2 g f1 f2 e n = some (sv, n')) : ∃ a n1 b, f1 e n = some (a, n1) ∧ f2 e n1 = some (b, n') ∧ g a b = some sv := by
  unfold fOp2 at h
  split at h
  · cases h
  · rename_i a n1 e1
    split at h
    · cases h
    · rename_i b n2 e2
      split at h
      · cases h
      · rename_i c e3
        cases h
        exact ⟨a, n1, b, e1, e2, e3⟩
/-- the rule r does what g says -/
def RDo (K : KW) (r : R2) (g : Sv → Sv → Option Sv) : Prop := ∀ st n I H x y a b sv (Q : VK), Wr st n I H → SvR K st I H x a → SvR K st I H y b → g a b = some sv → (∀ v I' H', Xt st n I H I' H' → SvR K st I' H' v sv → Fr H v sv → Q v H') → r x y H Q
theorem t_op2 {K : KW} {r : R2} {g : Sv → Sv → Option Sv} {f1 f2 : FE} (hd : RDo K r g) (σ : L2.St) (H : Hp) (Q : VK) (h : tE K (fOp2 g f1 f2) σ H Q) : tOp r (tE K f1) (tE K f2) σ H Q := by
  obtain ⟨st, n, H0, I, ev, w, E, sv, n', q, k⟩ := h
  obtain ⟨a, n1, b, q1, q2, q3⟩ := fOp2_eq q
  refine ⟨st, n, H0, I, ev, w, E, a, n1, q1, fun x I1 H1 x1 r1 f1 => ⟨st, n1, H0, I1, ev, x1.w, E.mono x1, b, n', q2, fun y I2 H2 x2 r2 f2 => ?_⟩⟩
  exact hd st n' I2 H2 x y a b sv Q x2.w (r1.mono x2) r2 q3 fun v I3 H3 x3 r3 f3 => k v I3 H3 ((x1.trans x2).trans x3) r3 (Fr.back (x1.trans x2) r3 f3)
theorem e_op {op : Operator} {r : R2} {gg : Sv → Sv → Option Sv} {a b : Expr} {f1 f2 : FE} {pos : Pos} (hr : OpR X (binaryOp op) r) (hd : RDo X.kw r gg) (h1 : PE X a (tE X.kw f1)) (h2 : PE X b (tE X.kw f2)) : PE X (.BinOp a op b pos) (tE X.kw (fOp2 gg f1 f2)) :=
  (pe_op hr h1 h2).by fun σ H Q h => t_op2 hd σ H Q h
theorem e_cmp {op : CmpOp} {r : R2} {gg : Sv → Sv → Option Sv} {a b : Expr} {f1 f2 : FE} {pos : Pos} (hr : OpR X (compareOp op) r) (hd : RDo X.kw r gg) (h1 : PE X a (tE X.kw f1)) (h2 : PE X b (tE X.kw f2)) (hm : behindInMarks op b = false) : PE X (.Compare a [op] [b] pos) (tE X.kw (fOp2 gg f1 f2)) :=
  (pe_cmpR hr h1 h2 hm).by fun σ H Q h => t_op2 hd σ H Q h
theorem e_ix {r : R2} {gg : Sv → Sv → Option Sv} {a b : Expr} {f1 f2 : FE} {pos : Pos} (hr : IxR X r) (hd : RDo X.kw r gg) (h1 : PE X a (tE X.kw f1)) (h2 : PE X b (tE X.kw f2)) (hs : PlainIx b) : PE X (.Subscript a b pos) (tE X.kw (fOp2 gg f1 f2)) :=
  (pe_ix hr h1 h2 hs).by fun σ H Q h => t_op2 hd σ H Q h
/-- by what is seen -/
def seeB (g : PyData → PyData → Option PyData) (a b : Sv) : Option Sv := match a.see, b.see with
  | some x, some y => match g x y with
    | some z => some (.d z)
    | none => none
  | _, _ => none
theorem seeB_eq {g : PyData → PyData → Option PyData} {a b sv} (h : seeB g a b = some sv) : ∃ x y z, a.see = some x ∧ b.see = some y ∧ g x y = some z ∧ sv = .d z := by
  unfold seeB at h
  split at h
  · rename_i x y e1 e2
    split at h
    · rename_i z e3
      cases h
      exact ⟨x, y, z, e1, e2, e3, rfl⟩
    · cases h
  · cases h
/-- rules that look at data and give data -/
def RDs (K : KW) (r : R2) (g : PyData → PyData → Option PyData) : Prop := ∀ st n I H x y a b d (Q : VK), Wr st n I H → See K I H x a → See K I H y b → g a b = some d → (∀ v I' H', Xt st n I H I' H' → Dp K I' v d → Q v H') → r x y H Q
theorem RDs.do {K : KW} {r g} (h : RDs K r g) : RDo K r (seeB g) := by
  intro st n I H x y a b sv Q w ha hb e k
  obtain ⟨x', y', z, e1, e2, e3, rfl⟩ := seeB_eq e
  exact h st n I H x y x' y' z Q w (ha.see e1) (hb.see e2) e3 fun v I' H' x kd => k v I' H' x kd trivial
/-! ### + - * // % ** -/
def addI : PyData → PyData → Option PyData
  | .int i, .int j => some (.int (i + j))
  | _, _ => none
def addS : PyData → PyData → Option PyData
  | .str x, .str y => if x.length + y.length ≤ big then some (.str (x ++ y)) else none
  | _, _ => none
def addT : PyData → PyData → Option PyData
  | .tuple xs, .tuple ys => if xs.length + ys.length ≤ big then some (.tuple (xs ++ ys)) else none
  | _, _ => none
def addD (a b : PyData) : Option PyData := match a, b with
  | .int i, .int j => some (.int (i + j))
  | .str x, .str y => if x.length + y.length ≤ big then some (.str (x ++ y)) else none
  | .tuple xs, .tuple ys => if xs.length + ys.length ≤ big then some (.tuple (xs ++ ys)) else none
  | _, _ => none
def addL (a b : Sv) : Option Sv := match a, b with
  | .bor xs, .cell ys => if xs.length + ys.length ≤ big then some (.cell (xs ++ ys)) else none
  | .cell xs, .cell ys => if xs.length + ys.length ≤ big then some (.cell (xs ++ ys)) else none
  | .cell xs, .bor ys => if xs.length + ys.length ≤ big then some (.cell (xs ++ ys)) else none
  | .bor xs, .bor ys => if xs.length + ys.length ≤ big then some (.cell (xs ++ ys)) else none
  | a, b => seeB addD a b
def rAddI : R2 := rI0 fun i j => .int (i + j)
def rAddS : R2 := fun x y H Q => ∃ i j, x = .str i ∧ y = .str j ∧ i.length + j.length ≤ sizeLine ∧ Q (.str (i ++ j)) H
def rAddA (K : KW) : R2 := fun x y H Q => rAddI x y H Q ∨ (rAddS x y H Q ∨ (rCatA K x y H Q ∨ rCat x y H Q))
theorem op_addA : OpR X (binaryOp .Add) (rAddA X.kw) := OpR.or' op_add (OpR.or' op_add_str (OpR.or' op_catA op_cat))
theorem dp_tupNew {K : KW} {st n I H xs} {ds : List PyData} (w : Wr st n I H) (ha : DpAll K I xs ds) {p : Addr} (hp : H p = none) : Xt st n I H (upd I p (.tup xs)) (upd H p (.tup xs)) ∧ Dp K (upd I p (.tup xs)) (.ref p) (.tuple ds) :=
  ⟨Xt.lay w hp, .tup (.inl (.inl upd_same)) (DpAll.mono (same_new (w.ine hp)) _ _ ha)⟩
theorem rd_addA {K : KW} : RDs K (rAddA K) addD := by
  intro st n I H x y a b d Q w ha hb e k
  unfold addD at e
  split at e
  · cases e
    exact .inl ⟨_, _, ha.int, hb.int, k _ I H (.refl w) (.int _)⟩
  · split at e
    · rename_i i j hl
      cases e
      exact .inr (.inl ⟨_, _, ha.str, hb.str, big_le hl, k _ I H (.refl w) (.str _)⟩)
    · cases e
  · split at e
    · rename_i xs ys hl
      cases e
      obtain ⟨p, vs, e1, t1, i1, d1⟩ := ha.tup w.im
      obtain ⟨q, us, e2, t2, i2, d2⟩ := hb.tup w.im
      refine .inr (.inr (.inl ⟨p, q, vs, us, e1, e2, t1, t2, by rw [DpAll.len d1, DpAll.len d2]; exact big_le hl, fun z => ?_, fun _ z => ?_, fun _ _ p' hp => ?_⟩))
      · subst z
        cases d1
        exact k _ I H (.refl w) (.tup i2 d2)
      · subst z
        cases d2
        rw [List.append_nil] at k
        exact k _ I H (.refl w) (.tup i1 d1)
      · obtain ⟨x1, k1⟩ := dp_tupNew w (DpAll.app d1 d2) hp
        exact k _ _ _ x1 k1
    · cases e
  · cases e
theorem lst_cat {K : KW} {st n I H x y xs ys} {Q : VK} (w : Wr st n I H) (ha : ∃ p vs, x = .ref p ∧ H p = some (.lst vs) ∧ I p = none ∧ p ≠ st ∧ DpAll K I vs xs) (hb : ∃ p vs, y = .ref p ∧ H p = some (.lst vs) ∧ I p = none ∧ p ≠ st ∧ DpAll K I vs ys)
    (hl : xs.length + ys.length ≤ big) (k : ∀ v I' H', Xt st n I H I' H' → SvR K st I' H' v (.cell (xs ++ ys)) → Fr H v (.cell (xs ++ ys)) → Q v H') : rCat x y H Q := by
  obtain ⟨p, vs, e1, h1, _, _, d1⟩ := ha
  obtain ⟨q, us, e2, h2, _, _, d2⟩ := hb
  refine ⟨p, q, vs, us, e1, e2, h1, h2, by rw [DpAll.len d1, DpAll.len d2]; exact big_le hl, fun r hr => ?_⟩
  exact k _ I _ (Xt.cell w hr) ⟨r, _, rfl, upd_same, w.ine hr, w.ne_st hr, DpAll.app d1 d2⟩ fun z ez => by rw [← V.ref.inj ez]; exact hr
theorem rd_add2 {K : KW} : RDo K (rAddA K) addL := by
  intro st n I H x y a b sv Q w ha hb e k
  have go : seeB addD a b = some sv → rAddA K x y H Q := fun e => RDs.do rd_addA st n I H x y a b sv Q w ha hb e k
  unfold addL at e
  split at e
  all_goals first
    | exact go e
    | (split at e
       · cases e
         exact .inr (.inr (.inr (lst_cat w ha hb (by assumption) k)))
       · cases e)
def subD : PyData → PyData → Option PyData
  | .int i, .int j => some (.int (i - j))
  | _, _ => none
theorem rd_subD {K : KW} : RDs K (rI0 fun i j => .int (i - j)) subD := by
  intro st n I H x y a b d Q w ha hb e k
  unfold subD at e
  split at e
  · cases e
    exact ⟨_, _, ha.int, hb.int, k _ I H (.refl w) (.int _)⟩
  · cases e
def mulD : PyData → PyData → Option PyData
  | .int i, .int j => if (-(2 ^ 64) < i ∧ i < 2 ^ 64) ∨ (-(2 ^ 64) < j ∧ j < 2 ^ 64) then some (.int (i * j)) else none
  | .tuple xs, .int k => if 1 ≤ k ∧ k ≤ 1000 ∧ xs.length ≤ 1000 then some (.tuple (List.replicate k.toNat xs).flatten) else none
  | _, _ => none
def rMulA (K : KW) : R2 := fun x y H Q => rI CMul (fun i j => .int (i * j)) x y H Q ∨ rRepA K x y H Q
theorem op_mulA : OpR X (binaryOp .Mult) (rMulA X.kw) := OpR.or' op_mul op_repA
theorem rep_one (xs : List PyData) : (List.replicate 1 xs).flatten = xs := by simp
theorem rep_nil (k : Nat) : (List.replicate k ([] : List PyData)).flatten = [] := by
  induction k with
  | zero => rfl
  | succ j ih => rw [List.replicate_succ, List.flatten_cons, ih]; rfl
theorem rd_mulD {K : KW} : RDs K (rMulA K) mulD := by
  intro st n I H x y a b d Q w ha hb e k
  unfold mulD at e
  split at e
  · split at e
    · rename_i hc
      cases e
      exact .inl ⟨_, _, ha.int, hb.int, hc, k _ I H (.refl w) (.int _)⟩
    · cases e
  · split at e
    · rename_i xs j hc
      cases e
      obtain ⟨p, vs, e1, t1, i1, d1⟩ := ha.tup w.im
      refine .inr ⟨p, j, vs, e1, hb.int, t1, hc.1, hc.2.1, by rw [DpAll.len d1]; exact hc.2.2, fun z => ?_, fun _ _ p' hp => ?_⟩
      · subst e1
        have q : (List.replicate j.toNat xs).flatten = xs := by
          rcases z with z | z
          · subst z
            cases d1
            exact rep_nil _
          · subst z
            exact rep_one xs
        rw [q] at k
        exact k _ I H (.refl w) (.tup i1 d1)
      · obtain ⟨x1, k1⟩ := dp_tupNew w (DpAll.rep d1 j.toNat) hp
        exact k _ _ _ x1 k1
    · cases e
  · cases e
def fdivD : PyData → PyData → Option PyData
  | .int i, .int j => if j ≠ 0 ∧ j.natAbs < 1073741824 then some (.int (i.fdiv j)) else none
  | _, _ => none
theorem rd_fdivD {K : KW} : RDs K (rI CDivN fun i j => .int (i.fdiv j)) fdivD := by
  intro st n I H x y a b d Q w ha hb e k
  unfold fdivD at e
  split at e
  · split at e
    · rename_i hc
      cases e
      exact ⟨_, _, ha.int, hb.int, hc, k _ I H (.refl w) (.int _)⟩
    · cases e
  · cases e
def modD : PyData → PyData → Option PyData
  | .int i, .int j => if j ≠ 0 then some (.int (i.fmod j)) else none
  | _, _ => none
theorem rd_modD {K : KW} : RDs K (rI (fun _ j => j ≠ 0) fun i j => .int (i.fmod j)) modD := by
  intro st n I H x y a b d Q w ha hb e k
  unfold modD at e
  split at e
  · split at e
    · rename_i hc
      cases e
      exact ⟨_, _, ha.int, hb.int, hc, k _ I H (.refl w) (.int _)⟩
    · cases e
  · cases e
def powD : PyData → PyData → Option PyData
  | .int i, .int j => if 0 ≤ j ∧ j ≤ 1000000 ∧ i.natAbs < 2 ^ 64 then some (.int (i ^ j.toNat)) else none
  | _, _ => none
theorem rd_powD {K : KW} : RDs K (rI CPow fun i j => .int (i ^ j.toNat)) powD := by
  intro st n I H x y a b d Q w ha hb e k
  unfold powD at e
  split at e
  · split at e
    · rename_i hc
      cases e
      exact ⟨_, _, ha.int, hb.int, hc, k _ I H (.refl w) (.int _)⟩
    · cases e
  · cases e
/-! ### comparisons -/
def ordB (op : CmpOp) (a b : PyData) : Bool := match op with
  | .Lt => PySem.W.dataLt a b
  | .Gt => PySem.W.dataLt b a
  | .LtE => !PySem.W.dataLt b a
  | _ => !PySem.W.dataLt a b
def nonD : PyData → Bool
  | .none => true
  | _ => false
def ordOk (a b : PyData) : Bool := PySem.W.alike a b && !nonD a && decide (a.depth ≤ 60)
def ordD (op : CmpOp) (a b : PyData) : Option PyData := if ordOk a b = true then some (.bool (ordB op a b)) else none
def rOrd (K : KW) (op : CmpOp) : R2 := fun x y H Q => ∃ d e, Dp K H x d ∧ Dp K H y e ∧ ordOk d e = true ∧ Q (.bl (ordB op d e)) H
theorem op_ord {op : CmpOp} (ho : op = .Lt ∨ op = .Gt ∨ op = .LtE ∨ op = .GtE) (hu : X.A.units + 64 < cLine) : OpR X (compareOp op) (rOrd X.kw op) := by
  intro pins s σ H x y v u Q I rx ry ⟨d, e, hd, he, hc, q⟩
  obtain ⟨as, r1⟩ := Dp.reads I d x v hd rx
  obtain ⟨bs, r2⟩ := Dp.reads I e y u he ry
  unfold ordOk at hc
  rw [Bool.and_eq_true, Bool.and_eq_true, decide_eq_true_eq] at hc
  obtain ⟨⟨c1, c2⟩, c3⟩ := hc
  have c4 : d ≠ .none := fun z => by subst z; cases c2
  have c5 : X.A.units + min d.depth e.depth < cLine := by have : min d.depth e.depth ≤ d.depth := Nat.min_le_left _ _; omega
  rcases ho with rfl | rfl | rfl | rfl
  · exact PySem.W.lt_data r1 r2 c1 c4 c5 ⟨.bl _, H, I, rfl, q⟩
  · exact PySem.W.gt_data r1 r2 c1 c4 c5 ⟨.bl _, H, I, rfl, q⟩
  · exact PySem.W.le_data r1 r2 c1 c4 c5 ⟨.bl _, H, I, rfl, q⟩
  · exact PySem.W.ge_data r1 r2 c1 c4 c5 ⟨.bl _, H, I, rfl, q⟩
theorem rd_ord {K : KW} {op : CmpOp} : RDs K (rOrd K op) (ordD op) := by
  intro st n I H x y a b d Q w ha hb e k
  unfold ordD at e
  split at e
  · cases e
    exact ⟨a, b, ha.dp w.im, hb.dp w.im, by assumption, k _ I H (.refl w) (.bl _)⟩
  · cases e
def eqD (neg : Bool) (a b : PyData) : Option PyData := match a, b with
  | .str x, .str y => some (.bool (decide (x = y) != neg))
  | .int x, .int y => some (.bool (decide (x = y) != neg))
  | .bool x, .bool y => some (.bool (decide (x = y) != neg))
  | a, b => if SeqAt.shaped a = true ∧ SeqAt.shaped b = true then some (.bool (PyData.eqv a b != neg)) else none
def rEqA (K : KW) : R2 := fun x y H Q => rEq x y H Q ∨ rEqD K x y H Q
def rNeA (K : KW) : R2 := fun x y H Q => rNe x y H Q ∨ rNeD K x y H Q
theorem op_eqA (hu : X.A.units + 64 < cLine) : OpR X (compareOp .Eq) (rEqA X.kw) := OpR.or' op_eq (op_eqD hu)
theorem op_neA (hu : X.A.units + 64 < cLine) : OpR X (compareOp .NotEq) (rNeA X.kw) := OpR.or' op_ne (op_neD hu)
theorem dec_str {x y : Str} : decide (V.str x = V.str y) = decide (x = y) := decide_eq_decide.mpr ⟨fun h => V.str.inj h, fun h => by rw [h]⟩
theorem dec_int {x y : Int} : decide (V.int x = V.int y) = decide (x = y) := decide_eq_decide.mpr ⟨fun h => V.int.inj h, fun h => by rw [h]⟩
theorem dec_bl {x y : Bool} : decide (V.bl x = V.bl y) = decide (x = y) := decide_eq_decide.mpr ⟨fun h => V.bl.inj h, fun h => by rw [h]⟩
theorem rd_eqD' {K : KW} : RDs K (rEqA K) (eqD false) := by
  intro st n I H x y a b d Q w ha hb e k
  unfold eqD at e
  split at e
  · cases e
    rw [Bool.bne_false] at k
    exact .inl (by rw [ha.str, hb.str]; exact ⟨rfl, by rw [dec_str]; exact k _ I H (.refl w) (.bl _)⟩)
  · cases e
    rw [Bool.bne_false] at k
    exact .inl (by rw [ha.int, hb.int]; exact ⟨rfl, by rw [dec_int]; exact k _ I H (.refl w) (.bl _)⟩)
  · cases e
    rw [Bool.bne_false] at k
    exact .inl (by rw [ha.bool, hb.bool]; exact ⟨rfl, by rw [dec_bl]; exact k _ I H (.refl w) (.bl _)⟩)
  · split at e
    · rename_i h
      cases e
      rw [Bool.bne_false] at k
      exact .inr ⟨a, b, ha.dp w.im, hb.dp w.im, h.1, h.2, k _ I H (.refl w) (.bl _)⟩
    · cases e
theorem rd_neD' {K : KW} : RDs K (rNeA K) (eqD true) := by
  intro st n I H x y a b d Q w ha hb e k
  unfold eqD at e
  split at e
  · cases e
    rw [Bool.bne_true] at k
    exact .inl (by rw [ha.str, hb.str]; exact ⟨rfl, by rw [dec_str]; exact k _ I H (.refl w) (.bl _)⟩)
  · cases e
    rw [Bool.bne_true] at k
    exact .inl (by rw [ha.int, hb.int]; exact ⟨rfl, by rw [dec_int]; exact k _ I H (.refl w) (.bl _)⟩)
  · cases e
    rw [Bool.bne_true] at k
    exact .inl (by rw [ha.bool, hb.bool]; exact ⟨rfl, by rw [dec_bl]; exact k _ I H (.refl w) (.bl _)⟩)
  · split at e
    · rename_i h
      cases e
      rw [Bool.bne_true] at k
      exact .inr ⟨a, b, ha.dp w.im, hb.dp w.im, h.1, h.2, k _ I H (.refl w) (.bl _)⟩
    · cases e
/-! in -/
def inD (neg : Bool) (a b : PyData) : Option PyData := match b with
  | .list ds => if SeqAt.shaped a = true ∧ SeqAt.shaped (.list ds) = true then some (.bool ((ds.any fun z => PyData.eqv z a) != neg)) else none
  | .tuple ds => if SeqAt.shaped a = true ∧ PyData.canLayAll0 ds = true then some (.bool ((ds.any fun z => PyData.eqv z a) != neg)) else none
  | .str z => match a with
    | .str c => match c.cps.toList with
      | [k] => some (.bool (decide (k ∈ z.cps.toList) != neg))
      | _ => none
    | _ => none
  | _ => none
def rInAll (K : KW) (neg : Bool) : R2 := fun x y H Q =>
  (∃ d ds, Dp K H x d ∧ Dp K H y (.list ds) ∧ SeqAt.shaped d = true ∧ SeqAt.shaped (.list ds) = true ∧ Q (.bl ((ds.any fun z => PyData.eqv z d) != neg)) H) ∨
  (∃ d ds, Dp K H x d ∧ Dp K H y (.tuple ds) ∧ SeqAt.shaped d = true ∧ PyData.canLayAll0 ds = true ∧ Q (.bl ((ds.any fun z => PyData.eqv z d) != neg)) H) ∨
  (∃ (c : Nat) (z : Str), x = .str ⟨#[c]⟩ ∧ y = .str z ∧ Q (.bl (decide (c ∈ z.cps.toList) != neg)) H)
theorem op_inAll (hu : X.A.units + 65 < cLine) : OpR X (compareOp .In) (rInAll X.kw false) := by
  intro pins s σ H x y v u Q I rx ry h
  rcases h with ⟨d, ds, hd, he, sd, se, q⟩ | ⟨d, ds, hd, he, sd, se, q⟩ | ⟨c, z, e1, e2, q⟩
  · rw [Bool.bne_false] at q
    exact op_inD hu pins s σ H x y v u Q I rx ry ⟨d, ds, hd, he, sd, se, q⟩
  · rw [Bool.bne_false] at q
    exact op_inT hu pins s σ H x y v u Q I rx ry ⟨d, ds, hd, he, sd, se, q⟩
  · rw [Bool.bne_false] at q
    exact op_in_sign pins s σ H x y v u Q I rx ry ⟨c, z, e1, e2, q⟩
theorem op_notInAll (hu : X.A.units + 65 < cLine) : OpR X (compareOp .NotIn) (rInAll X.kw true) := by
  intro pins s σ H x y v u Q I rx ry h
  rcases h with ⟨d, ds, hd, he, sd, se, q⟩ | ⟨d, ds, hd, he, sd, se, q⟩ | ⟨c, z, e1, e2, q⟩
  · rw [Bool.bne_true] at q
    exact op_notInD hu pins s σ H x y v u Q I rx ry ⟨d, ds, hd, he, sd, se, q⟩
  · rw [Bool.bne_true] at q
    obtain ⟨as, r1⟩ := Dp.reads I d x v hd rx
    obtain ⟨bs, r2⟩ := Dp.reads I (.tuple ds) y u he ry
    exact SeqAt.notIn_tuple_reads r2 r1 se (SeqAt.canLay_of_shaped sd) (room_in_shaped sd hu) ⟨.bl _, H, I, rfl, q⟩
  · rw [Bool.bne_true] at q
    exact op_notIn_sign pins s σ H x y v u Q I rx ry ⟨c, z, e1, e2, q⟩
theorem rd_inD' {K : KW} {neg : Bool} : RDs K (rInAll K neg) (inD neg) := by
  intro st n I H x y a b d Q w ha hb e k
  unfold inD at e
  split at e
  · split at e
    · rename_i h
      cases e
      exact .inl ⟨a, _, ha.dp w.im, hb.dp w.im, h.1, h.2, k _ I H (.refl w) (.bl _)⟩
    · cases e
  · split at e
    · rename_i h
      cases e
      exact .inr (.inl ⟨a, _, ha.dp w.im, hb.dp w.im, h.1, h.2, k _ I H (.refl w) (.bl _)⟩)
    · cases e
  · split at e
    · split at e
      · rename_i z _ c _ k' hk
        cases e
        refine .inr (.inr ⟨k', z, ?_, hb.str, k _ I H (.refl w) (.bl _)⟩)
        rw [ha.str]
        congr 1
        cases c with
        | mk cps =>
          congr 1
          apply Array.toList_inj.mp
          exact hk
      · cases e
    · cases e
  · cases e
/-! is -/
def isNoneD (neg : Bool) (a b : PyData) : Option PyData := match b with
  | .none => some (.bool (nonD a != neg))
  | .bool y => match a with
    | .bool x => some (.bool (decide (x = y) != neg))
    | _ => none
  | _ => none
def rIsAll (neg : Bool) : R2 := fun x y H Q => (y = .non ∧ Q (.bl (decide (x = .non) != neg)) H) ∨ ∃ a b : Bool, x = .bl a ∧ y = .bl b ∧ Q (.bl (decide (a = b) != neg)) H
theorem op_isAll : OpR X (compareOp .Is) (rIsAll false) := by
  intro pins s σ H x y v u Q I rx ry h
  rcases h with ⟨e, q⟩ | ⟨a, b, e1, e2, q⟩
  · rw [Bool.bne_false] at q
    exact op_isN pins s σ H x y v u Q I rx ry ⟨e, q⟩
  · rw [Bool.bne_false] at q
    exact op_isBl pins s σ H x y v u Q I rx ry ⟨a, b, e1, e2, q⟩
theorem op_isNotAll : OpR X (compareOp .IsNot) (rIsAll true) := by
  intro pins s σ H x y v u Q I rx ry h
  rcases h with ⟨e, q⟩ | ⟨a, b, e1, e2, q⟩
  · rw [Bool.bne_true] at q
    exact op_notN pins s σ H x y v u Q I rx ry ⟨e, q⟩
  · rw [Bool.bne_true] at q
    exact op_notBl pins s σ H x y v u Q I rx ry ⟨a, b, e1, e2, q⟩
theorem dp_non {K H v d} (h : Dp K H v d) : decide (v = .non) = nonD d := by
  cases h <;> rfl
theorem rd_isAll {K : KW} {neg : Bool} : RDs K (rIsAll neg) (isNoneD neg) := by
  intro st n I H x y a b d Q w ha hb e k
  unfold isNoneD at e
  split at e
  · cases e
    exact .inl ⟨hb.none, by rw [dp_non (ha.dp w.im)]; exact k _ I H (.refl w) (.bl _)⟩
  · split at e
    · cases e
      exact .inr ⟨_, _, ha.bool, hb.bool, k _ I H (.refl w) (.bl _)⟩
    · cases e
  · cases e
/-! ### an item -/
def strAt (z : Str) (i : Int) : Option PyData := if z.length ≤ big then match atI z.cps.toList i with
    | some c => some (.str ⟨#[c]⟩)
    | none => none
  else none
def ixD (a b : PyData) : Option PyData := match a, b with
  | .list xs, .int i => atI xs i
  | .tuple xs, .int i => atI xs i
  | .str z, .int i => strAt z i
  | _, _ => none
theorem at_dp {K H vs ds d} {i : Int} (h : DpAll K H vs ds) (e : atI ds i = some d) : ∃ v, atI vs i = some v ∧ Dp K H v d := by
  unfold atI at e ⊢
  rw [DpAll.len h]
  cases q : ixN ds.length i with
  | none => rw [q] at e; cases e
  | some j =>
    rw [q] at e
    have e3 : ds[j]? = some d := e
    obtain ⟨v', ev', kv'⟩ := DpAll.got h e3
    exact ⟨v', ev', kv'⟩
theorem rd_ixD {K : KW} : RDs K (rIx K) ixD := by
  intro st n I H x y a b d Q w ha hb e k
  unfold ixD at e
  split at e
  · obtain ⟨p, vs, e1, h1, h2⟩ := ha.lst w.im
    obtain ⟨v, e2, kv⟩ := at_dp h2 e
    exact .inl ⟨p, vs, _, v, e1, hb.int, h1, e2, k v I H (.refl w) kv⟩
  · obtain ⟨p, vs, e1, h1, _, h2⟩ := ha.tup w.im
    obtain ⟨v, e2, kv⟩ := at_dp h2 e
    exact .inr (.inl ⟨p, vs, _, v, e1, hb.int, h1, e2, k v I H (.refl w) kv⟩)
  · unfold strAt at e
    split at e
    · rename_i z i hz
      split at e
      · rename_i c hc
        cases e
        exact .inr (.inr ⟨z, i, c, ha.str, hb.int, big_le hz, hc, k _ I H (.refl w) (.str _)⟩)
      · cases e
    · cases e
  · cases e
/-! ### not, -, and, or, if -/
def fNot (f : FE) : FE := fun e n => match f e n with
  | some (.d (.bool b), n1) => some (.d (.bool (!b)), n1)
  | _ => none
theorem e_not {pos} (h : PE X e (tE X.kw f)) : PE X (.UnaryOp .Not e pos) (tE X.kw (fNot f)) := (pe_not h).by fun σ H Q ⟨st, n, H0, I, ev, w, E, sv, n', q, k⟩ => by
  unfold fNot at q
  split at q
  · rename_i b n1 q1
    cases q
    refine ⟨st, n, H0, I, ev, w, E, _, _, q1, fun v I1 H1 x1 r1 _ => ?_⟩
    cases r1
    exact ⟨b, rfl, k _ I1 H1 x1 (.bl _) trivial⟩
  · cases q
def fNeg (f : FE) : FE := fun e n => match f e n with
  | some (.d (.int b), n1) => some (.d (.int (-b)), n1)
  | _ => none
theorem e_neg {pos} (h : PE X e (tE X.kw f)) : PE X (.UnaryOp .USub e pos) (tE X.kw (fNeg f)) := (pe_un un_neg h).by fun σ H Q ⟨st, n, H0, I, ev, w, E, sv, n', q, k⟩ => by
  unfold fNeg at q
  split at q
  · rename_i b n1 q1
    cases q
    refine ⟨st, n, H0, I, ev, w, E, _, _, q1, fun v I1 H1 x1 r1 _ => ?_⟩
    cases r1
    exact ⟨b, rfl, k _ I1 H1 x1 (.int _) trivial⟩
  · cases q
def fAnd (f g : FE) : FE := fun e n => match f e n with
  | some (.d (.bool b), n1) => if b = true then g e n1 else some (.d (.bool false), n1)
  | _ => none
def fOr (f g : FE) : FE := fun e n => match f e n with
  | some (.d (.bool b), n1) => if b = true then some (.d (.bool true), n1) else g e n1
  | _ => none
theorem e_and {es' : List Expr} {pos} (h1 : PE X e (tE X.kw f)) (h2 : PE X (.BoolOp .And (e2 :: es') pos) (tE X.kw g)) : PE X (.BoolOp .And (e :: e2 :: es') pos) (tE X.kw (fAnd f g)) := (pe_and h1 h2).by fun σ H Q ⟨st, n, H0, I, ev, w, E, sv, n', q, k⟩ => by
  unfold fAnd at q
  split at q
  · rename_i b n1 q1
    refine ⟨st, n, H0, I, ev, w, E, _, _, q1, fun v I1 H1 x1 r1 _ => ?_⟩
    cases r1
    refine ⟨b, rfl, ?_⟩
    split at q
    · rename_i hb
      rw [if_pos hb]
      exact ⟨st, n1, H0, I1, ev, x1.w, E.mono x1, sv, n', q, fun v2 I2 H2 x2 r2 f2 => k v2 I2 H2 (x1.trans x2) r2 (Fr.back x1 r2 f2)⟩
    · rename_i hb
      rw [if_neg hb]
      cases q
      exact k _ I1 H1 x1 (.bl _) trivial
  · cases q
theorem e_or {es' : List Expr} {pos} (h1 : PE X e (tE X.kw f)) (h2 : PE X (.BoolOp .Or (e2 :: es') pos) (tE X.kw g)) : PE X (.BoolOp .Or (e :: e2 :: es') pos) (tE X.kw (fOr f g)) := (pe_or h1 h2).by fun σ H Q ⟨st, n, H0, I, ev, w, E, sv, n', q, k⟩ => by
  unfold fOr at q
  split at q
  · rename_i b n1 q1
    refine ⟨st, n, H0, I, ev, w, E, _, _, q1, fun v I1 H1 x1 r1 _ => ?_⟩
    cases r1
    refine ⟨b, rfl, ?_⟩
    split at q
    · rename_i hb
      rw [if_pos hb]
      cases q
      exact k _ I1 H1 x1 (.bl _) trivial
    · rename_i hb
      rw [if_neg hb]
      exact ⟨st, n1, H0, I1, ev, x1.w, E.mono x1, sv, n', q, fun v2 I2 H2 x2 r2 f2 => k v2 I2 H2 (x1.trans x2) r2 (Fr.back x1 r2 f2)⟩
  · cases q
/-! tests -/
def bT (f : FE) : FT := fun e n => match f e n with
  | some (.d (.bool b), n1) => some (b, n1)
  | _ => none
theorem tb_of {K : KW} {σ H} {Q : Bool → Hp → Prop} (h : tTs K (bT f) σ H Q) : tB (tE K f) σ H Q := by
  obtain ⟨st, n, H0, I, ev, w, E, b, n', q, k⟩ := h
  unfold bT at q
  split at q
  · rename_i b2 n1 q1
    cases q
    refine ⟨st, n, H0, I, ev, w, E, _, _, q1, fun v I1 H1 x1 r1 _ => ?_⟩
    cases r1
    exact ⟨_, rfl, k I1 H1 x1⟩
  · cases q
end
end Sb

/-! P2: tests, arguments, displays, slices, calls. -/
namespace Sb
open PySem PySem.Spec PyProof.Rows L2
section
variable {X : Cx} {e e2 e3 : Expr} {es : List Expr} {f g : FE} {fa : FA} {ft fu : FT}
theorem bT_eq {f : FE} {e n b n'} (h : bT f e n = some (b, n')) : f e n = some (.d (.bool b), n') := by
  unfold bT at h
  split at h
  · rename_i b2 n1 q1
    cases h
    exact q1
  · cases h
theorem ttest_of {K : KW} {σ H} {Q : Bool → Hp → Prop} (h : tTs K (bT f) σ H Q) : tTest (tE K f) σ H Q := tb_of h
theorem t_val (h : PE X e (tE X.kw f)) (he : ∀ whole, isTrue e X.env whole = (do let v ← whole; standAt e.pos; holding [v] (truthy v)) := by intro _; rfl) : PT X e (tTs X.kw (bT f)) := (pt_val h he).by fun σ H Q h => tb_of h
theorem t_cmp {op : CmpOp} {r : R2} {gg : Sv → Sv → Option Sv} {a b : Expr} {f1 f2 : FE} {pos : Pos} (hr : OpR X (compareOp op) r) (hd : RDo X.kw r gg) (h1 : PE X a (tE X.kw f1)) (h2 : PE X b (tE X.kw f2)) (hm : behindInMarks op b = false) : PT X (.Compare a [op] [b] pos) (tTs X.kw (bT (fOp2 gg f1 f2))) :=
  (pt_cmpR hr h1 h2 hm).by fun σ H Q h => by
    obtain ⟨st, n, H0, I, ev, w, E, b, n', q, k⟩ := h
    refine t_op2 hd σ H _ ⟨st, n, H0, I, ev, w, E, _, n', bT_eq q, fun v I' H' x r _ => ?_⟩
    cases r
    exact ⟨b, rfl, k I' H' x⟩
def fChain (g1 g2 : Sv → Sv → Option Sv) (fa fb fc : FE) : FE := fun e n => match fa e n with
  | none => none
  | some (a, n1) => match fb e n1 with
    | none => none
    | some (b, n2) => match g1 a b with
      | some (.d (.bool true)) => (match b with
        | .cell _ => none
        | b => match fc e n2 with
          | none => none
          | some (c, n3) => match g2 b c with
            | none => none
            | some r => some (r, n3))
      | some (.d (.bool false)) => some (.d (.bool false), n2)
      | _ => none
theorem ch_of {K : KW} {r r'} {g1 g2 : Sv → Sv → Option Sv} {f1 f2 f3 : FE} (hd : RDo K r g1) (hd' : RDo K r' g2) {σ H} {Q : VK} (h : tE K (fChain g1 g2 f1 f2 f3) σ H Q) : tChain r r' (tE K f1) (tE K f2) (tE K f3) σ H Q := by
  obtain ⟨st, n, H0, I, ev, w, E, sv, n', q, k⟩ := h
  unfold fChain at q
  split at q
  · cases q
  · rename_i a n1 q1
    split at q
    · cases q
    · rename_i b n2 q2
      refine ⟨st, n, H0, I, ev, w, E, a, n1, q1, fun x I1 H1 x1 r1 f1 => ⟨st, n1, H0, I1, ev, x1.w, E.mono x1, b, n2, q2, fun y I2 H2 x2 r2 f2 => ?_⟩⟩
      split at q
      · rename_i q3
        split at q
        · cases q
        · rename_i b' nc
          split at q
          · cases q
          · rename_i c n3 q4
            split at q
            · cases q
            · rename_i rr q5
              cases q
              refine hd st n2 I2 H2 x y a b _ _ x2.w (r1.mono x2) r2 q3 fun v I3 H3 x3 r3 f3 => ?_
              cases r3
              refine ⟨true, rfl, ?_⟩
              rw [if_pos rfl]
              have E3 := ((E.mono x1).mono x2).mono x3
              refine ⟨st, n2, H0, I3, ev, x3.w, E3, c, n', q4, fun w' I4 H4 x4 r4 f4 => ?_⟩
              refine hd' st n' I4 H4 y w' b c sv Q x4.w ((r2.mono x3).mono x4) r4 q5 fun v5 I5 H5 x5 r5 f5 => ?_
              have xx := ((x1.trans x2).trans x3).trans x4
              exact k v5 I5 H5 (xx.trans x5) r5 (Fr.back xx r5 f5)
      · rename_i q3
        cases q
        refine hd st _ I2 H2 x y a b _ _ x2.w (r1.mono x2) r2 q3 fun v I3 H3 x3 r3 f3 => ?_
        cases r3
        refine ⟨false, rfl, ?_⟩
        rw [if_neg Bool.false_ne_true]
        exact k _ I3 H3 ((x1.trans x2).trans x3) (.bl _) trivial
      · cases q
theorem e_chain {op op' : CmpOp} {r r' : R2} {g1 g2 : Sv → Sv → Option Sv} {a b c : Expr} {f1 f2 f3 : FE} {pos : Pos} (ho : OpR X (compareOp op) r) (hd : RDo X.kw r g1) (ho' : OpR X (compareOp op') r') (hd' : RDo X.kw r' g2) (ha : PE X a (tE X.kw f1)) (hb : PE X b (tE X.kw f2)) (hc : PE X c (tE X.kw f3))
    (hm : lastMarks [op, op'] [b, c] = false := by with_unfolding_all rfl) : PE X (.Compare a [op, op'] [b, c] pos) (tE X.kw (fChain g1 g2 f1 f2 f3)) := (pe_chain ho ho' ha hb hc hm).by fun σ H Q h => ch_of hd hd' h
theorem t_chain {op op' : CmpOp} {r r' : R2} {g1 g2 : Sv → Sv → Option Sv} {a b c : Expr} {f1 f2 f3 : FE} {pos : Pos} (ho : OpR X (compareOp op) r) (hd : RDo X.kw r g1) (ho' : OpR X (compareOp op') r') (hd' : RDo X.kw r' g2) (ha : PE X a (tE X.kw f1)) (hb : PE X b (tE X.kw f2)) (hc : PE X c (tE X.kw f3))
    (hm : lastMarks [op, op'] [b, c] = false := by with_unfolding_all rfl) : PT X (.Compare a [op, op'] [b, c] pos) (tTs X.kw (bT (fChain g1 g2 f1 f2 f3))) := (pt_chain ho ho' ha hb hc hm).by fun σ H Q h => by
    obtain ⟨st, n, H0, I, ev, w, E, b, n', q, k⟩ := h
    refine ch_of hd hd' ⟨st, n, H0, I, ev, w, E, _, n', bT_eq q, fun v I' H' x r _ => ?_⟩
    cases r
    exact ⟨b, rfl, k I' H' x⟩
def tAndF (f g : FT) : FT := fun e n => match f e n with
  | some (true, n1) => g e n1
  | some (false, n1) => some (false, n1)
  | none => none
def tOrF (f g : FT) : FT := fun e n => match f e n with
  | some (true, n1) => some (true, n1)
  | some (false, n1) => g e n1
  | none => none
def tNotF (f : FT) : FT := fun e n => match f e n with
  | some (b, n1) => some (!b, n1)
  | none => none
theorem t_not {pos} (h : PT X e (tTs X.kw ft)) : PT X (.UnaryOp .Not e pos) (tTs X.kw (tNotF ft)) := (pt_not h).by fun σ H Q ⟨st, n, H0, I, ev, w, E, b, n', q, k⟩ => by
  unfold tNotF at q
  split at q
  · rename_i b1 n1 q1
    cases q
    exact ⟨st, n, H0, I, ev, w, E, _, _, q1, k⟩
  · cases q
theorem w_by {t u : TT} (h : PW X e t) (k : ∀ σ H Q, u σ H Q → t σ H Q) : PW X e u := ⟨fun wh pins s σ H Q I q => h.run wh pins s σ H Q I (k σ H Q q)⟩
theorem w_and {rest : List Expr} {pos} (h1 : PT X e (tTs X.kw ft)) (h2 : PW X (.BoolOp .And (e2 :: rest) pos) (tTs X.kw fu)) : PW X (.BoolOp .And (e :: e2 :: rest) pos) (tTs X.kw (tAndF ft fu)) := w_by (pw_and h1 h2) fun σ H Q ⟨st, n, H0, I, ev, w, E, b, n', q, k⟩ => by
  unfold tAndF at q
  split at q
  · rename_i n1 q1
    refine ⟨st, n, H0, I, ev, w, E, _, _, q1, fun I1 H1 x1 => ?_⟩
    dsimp only
    rw [if_pos rfl]
    exact ⟨st, n1, H0, I1, ev, x1.w, E.mono x1, b, n', q, fun I2 H2 x2 => k I2 H2 (x1.trans x2)⟩
  · rename_i n1 q1
    cases q
    refine ⟨st, n, H0, I, ev, w, E, _, _, q1, fun I1 H1 x1 => ?_⟩
    dsimp only
    rw [if_neg Bool.false_ne_true]
    exact k I1 H1 x1
  · cases q
theorem w_or {rest : List Expr} {pos} (h1 : PT X e (tTs X.kw ft)) (h2 : PW X (.BoolOp .Or (e2 :: rest) pos) (tTs X.kw fu)) : PW X (.BoolOp .Or (e :: e2 :: rest) pos) (tTs X.kw (tOrF ft fu)) := w_by (pw_or h1 h2) fun σ H Q ⟨st, n, H0, I, ev, w, E, b, n', q, k⟩ => by
  unfold tOrF at q
  split at q
  · rename_i n1 q1
    cases q
    refine ⟨st, n, H0, I, ev, w, E, _, _, q1, fun I1 H1 x1 => ?_⟩
    dsimp only
    rw [if_pos rfl]
    exact k I1 H1 x1
  · rename_i n1 q1
    refine ⟨st, n, H0, I, ev, w, E, _, _, q1, fun I1 H1 x1 => ?_⟩
    dsimp only
    rw [if_neg Bool.false_ne_true]
    exact ⟨st, n1, H0, I1, ev, x1.w, E.mono x1, b, n', q, fun I2 H2 x2 => k I2 H2 (x1.trans x2)⟩
  · cases q
def fIf (t : FT) (f g : FE) : FE := fun e n => match t e n with
  | some (true, n1) => f e n1
  | some (false, n1) => g e n1
  | none => none
theorem e_if {c : Expr} {pos} (hc : PT X c (tTs X.kw ft)) (h1 : PE X e (tE X.kw f)) (h2 : PE X e2 (tE X.kw g)) : PE X (.IfExp c e e2 pos) (tE X.kw (fIf ft f g)) := (pe_ifExp hc h1 h2).by fun σ H Q ⟨st, n, H0, I, ev, w, E, sv, n', q, k⟩ => by
  unfold fIf at q
  split at q
  · rename_i n1 q1
    refine ⟨st, n, H0, I, ev, w, E, _, _, q1, fun I1 H1 x1 => ?_⟩
    dsimp only
    rw [if_pos rfl]
    exact ⟨st, n1, H0, I1, ev, x1.w, E.mono x1, sv, n', q, fun v2 I2 H2 x2 r2 f2 => k v2 I2 H2 (x1.trans x2) r2 (Fr.back x1 r2 f2)⟩
  · rename_i n1 q1
    refine ⟨st, n, H0, I, ev, w, E, _, _, q1, fun I1 H1 x1 => ?_⟩
    dsimp only
    rw [if_neg Bool.false_ne_true]
    exact ⟨st, n1, H0, I1, ev, x1.w, E.mono x1, sv, n', q, fun v2 I2 H2 x2 r2 f2 => k v2 I2 H2 (x1.trans x2) r2 (Fr.back x1 r2 f2)⟩
  · cases q
/-! ### arguments -/
def faNil : FA := fun _ n => some ([], n)
def faCons (f : FE) (g : FA) : FA := fun e n => match f e n with
  | none => none
  | some (a, n1) => match g e n1 with
    | none => none
    | some (as, n2) => some (a.arg :: as, n2)
theorem a_nil : PA X [] (tAs X.kw faNil) := pa_nil.by fun σ H Q ⟨st, n, H0, I, ev, w, E, as, n', q, k⟩ => by
  cases q
  exact k [] I H (.refl w) .nil
theorem a_cons (h1 : PE X e (tE X.kw f)) (h2 : PA X es (tAs X.kw fa)) (hs : starEach (e :: es) X.env = (false, eval e X.env) :: starEach es X.env := by rfl) : PA X (e :: es) (tAs X.kw (faCons f fa)) := (pa_cons h1 h2 hs).by fun σ H Q ⟨st, n, H0, I, ev, w, E, as, n', q, k⟩ => by
  unfold faCons at q
  split at q
  · cases q
  · rename_i a n1 q1
    split at q
    · cases q
    · rename_i as' n2 q2
      cases q
      refine ⟨st, n, H0, I, ev, w, E, a, n1, q1, fun x I1 H1 x1 r1 f1 => ?_⟩
      obtain ⟨I2, x2, r2⟩ := SvR.argOf x1 r1 f1
      exact ⟨st, n1, H0, I2, ev, x2.w, E.mono x2, as', _, q2, fun vs I3 H3 x3 r3 => k _ I3 H3 (x2.trans x3) (.cons (r2.mono x3) (arg_nocell a) r3)⟩
/-! displays -/
def fTup (fa : FA) : FE := fun e n => match fa e n with
  | none => none
  | some (as, n1) => match keepAll as with
    | some xs => if xs.length ≤ big then some (.d (.tuple xs), n1) else none
    | none => none
def fLst (fa : FA) : FE := fun e n => match fa e n with
  | none => none
  | some (as, n1) => match keepAll as with
    | some xs => if xs.length ≤ big then some (.cell xs, n1) else none
    | none => none
theorem sv_cellNew {K : KW} {st n I H xs} {ds : List PyData} (w : Wr st n I H) (ha : DpAll K I xs ds) {p : Addr} (hp : H p = none) : Xt st n I H I (upd H p (.lst xs)) ∧ SvR K st I (upd H p (.lst xs)) (.ref p) (.cell ds) ∧ Fr H (.ref p) (.cell ds) :=
  ⟨Xt.cell w hp, ⟨p, xs, rfl, upd_same, w.ine hp, w.ne_st hp, ha⟩, fun z ez => by rw [← V.ref.inj ez]; exact hp⟩
theorem e_tup {x1 pos} (h : PA X es (tAs X.kw fa)) : PE X (.Tuple es x1 pos) (tE X.kw (fTup fa)) := (pe_tup h).by fun σ H Q ⟨st, n, H0, I, ev, w, E, sv, n', q, k⟩ => by
  unfold fTup at q
  split at q
  · cases q
  · rename_i as n1 q1
    split at q
    · rename_i xs q2
      split at q
      · rename_i hl
        cases q
        refine ⟨st, n, H0, I, ev, w, E, as, _, q1, fun vs I1 H1 x1 r1 => ?_⟩
        have hd := r1.keepAll q2
        refine ⟨by rw [DpAll.len hd]; exact big_le hl, fun p hp => ?_⟩
        obtain ⟨x2, k2⟩ := dp_tupNew x1.w hd hp
        exact k _ _ _ (x1.trans x2) k2 trivial
      · cases q
    · cases q
theorem e_lst {pos} (h : PA X es (tAs X.kw fa)) : PE X (.List es pos) (tE X.kw (fLst fa)) := (pe_lst h).by fun σ H Q ⟨st, n, H0, I, ev, w, E, sv, n', q, k⟩ => by
  unfold fLst at q
  split at q
  · cases q
  · rename_i as n1 q1
    split at q
    · rename_i xs q2
      split at q
      · rename_i hl
        cases q
        refine ⟨st, n, H0, I, ev, w, E, as, _, q1, fun vs I1 H1 x1 r1 => ?_⟩
        have hd := r1.keepAll q2
        refine ⟨by rw [DpAll.len hd]; exact big_le hl, fun p hp => ?_⟩
        obtain ⟨x2, k2, k3⟩ := sv_cellNew x1.w hd hp
        exact k _ _ _ (x1.trans x2) k2 (Fr.back x1 k2 k3)
      · cases q
    · cases q
/-! ### a part -/
def FO := Ev → Nat → Option (Option Int × Nat)
def tOs (K : KW) (f : FO) : TO := fun σ H Q => ∃ st n H0 I e, Wr st n I H ∧ Er K st H0 I H σ e ∧ ∃ o n', f e n = some (o, n') ∧ ∀ I' H', Xt st n' I H I' H' → Q o H'
def oNone : FO := fun _ n => some (none, n)
def oSome (f : FE) : FO := fun e n => match f e n with
  | some (.d (.int i), n1) => some (some i, n1)
  | _ => none
theorem _root_.L2.PO.by {o : Option Expr} {t u : TO} (h : PO X o t) (k : ∀ σ H Q, u σ H Q → t σ H Q) : PO X o u := ⟨fun pins s σ H Q I q => h.run pins s σ H Q I (k σ H Q q)⟩
theorem o_none : PO X none (tOs X.kw oNone) := po_none.by fun σ H Q ⟨st, n, H0, I, ev, w, E, o, n', q, k⟩ => by
  cases q
  exact k I H (.refl w)
theorem o_some (h : PE X e (tE X.kw f)) : PO X (some e) (tOs X.kw (oSome f)) := (po_some h).by fun σ H Q ⟨st, n, H0, I, ev, w, E, o, n', q, k⟩ => by
  unfold oSome at q
  split at q
  · rename_i i n1 q1
    cases q
    refine ⟨st, n, H0, I, ev, w, E, _, _, q1, fun v I1 H1 x1 r1 _ => ?_⟩
    cases r1
    exact ⟨i, rfl, k I1 H1 x1⟩
  · cases q
def slD (a : PyData) (lo hi : Option Int) : Option Sv := match a with
  | .tuple xs => some (.d (.tuple (cutD xs lo hi)))
  | .list xs => some (.cell (cutD xs lo hi))
  | .str z => if z.length ≤ big then some (.d (.str (Txt.slice z lo hi))) else none
  | _ => none
def fSl (f : FE) (a b : FO) : FE := fun e n => match f e n with
  | none => none
  | some (s, n1) => match s with
    | .cell _ => none
    | s => match s.see with
      | none => none
      | some x => match a e n1 with
        | none => none
        | some (lo, n2) => match b e n2 with
          | none => none
          | some (hi, n3) => match slD x lo hi with
            | none => none
            | some r => some (r, n3)
def rSlAll (K : KW) : V → Option Int → Option Int → Hp → VK → Prop := fun x lo hi H Q => rSlA K x lo hi H Q ∨ (rSlL K x lo hi H Q ∨ C8.rSlX x lo hi H Q)
theorem sl_all : SlR X (rSlAll X.kw) := SlR.or sl_tupA (SlR.or sl_list C8.sl_txt)
theorem e_sl {lo hi : Option Expr} {a b : FO} {p2 pos : Pos} (h : PE X e (tE X.kw f)) (h1 : PO X lo (tOs X.kw a)) (h2 : PO X hi (tOs X.kw b)) : PE X (.Subscript e (.Slice lo hi none p2) pos) (tE X.kw (fSl f a b)) := (pe_slice sl_all h h1 h2).by fun σ H Q ⟨st, n, H0, I, ev, w, E, sv, n', q, k⟩ => by
  unfold fSl at q
  split at q
  · cases q
  · rename_i s n1 q1
    split at q
    · cases q
    · rename_i s' nc
      split at q
      · cases q
      · rename_i x q2
        split at q
        · cases q
        · rename_i lo' n2 q3
          split at q
          · cases q
          · rename_i hi' n3 q4
            split at q
            · cases q
            · rename_i r q5
              cases q
              refine ⟨st, n, H0, I, ev, w, E, _, _, q1, fun v I1 H1 x1 r1 _ => ⟨st, n1, H0, I1, ev, x1.w, E.mono x1, lo', n2, q3, fun I2 H2 x2 => ⟨st, n2, H0, I2, ev, x2.w, (E.mono x1).mono x2, hi', _, q4, fun I3 H3 x3 => ?_⟩⟩⟩
              have r3 := ((r1.mono x2).mono x3).see q2
              have xx := (x1.trans x2).trans x3
              unfold slD at q5
              split at q5
              · cases q5
                obtain ⟨p, vs, e1, t1, i1, d1⟩ := r3.tup x3.w.im
                refine .inl ⟨p, vs, e1, t1, fun hw => ?_, fun _ p' hp => ?_⟩
                · rename_i ds
                  have ec : cutD ds lo' hi' = ds := by
                    unfold cutD
                    rw [← DpAll.len d1, hw.1, hw.2, List.drop_zero, DpAll.len d1]
                    exact List.take_of_length_le (by omega)
                  rw [ec] at k
                  exact k _ I3 H3 xx (.tup i1 d1) trivial
                · obtain ⟨x4, k4⟩ := dp_tupNew x3.w (DpAll.cut d1 lo' hi') hp
                  exact k _ _ _ (xx.trans x4) k4 trivial
              · cases q5
                obtain ⟨p, vs, e1, t1, d1⟩ := r3.lst x3.w.im
                refine .inr (.inl ⟨p, vs, e1, t1, fun p' hp => ?_⟩)
                obtain ⟨x4, k4, k5⟩ := sv_cellNew x3.w (DpAll.cut d1 lo' hi') hp
                exact k _ _ _ (xx.trans x4) k4 (Fr.back xx k4 k5)
              · split at q5
                · rename_i z hz
                  cases q5
                  exact .inr (.inr ⟨z, r3.str, big_le hz, k _ I3 H3 xx (.str _) trivial⟩)
                · cases q5
              · cases q5
/-! ### calls -/
def fCall (np : Nat) (F : FF) (fa : FA) : FE := fun e n => match fa e n with
  | none => none
  | some (as, n1) => if as.length = np then F as n1 else none
theorem e_call {k : Nat} {fn : Addr} {fd : FuncData} {ps : List Str} {x : Str} {p pos : Pos} {np : Nat} {F : FF} (G : FnOk X.prog X.w X.K X.mg X.base CX0 k fn fd ps (spF X.kw np F)) (hr : Room k X.A) (hg : Gl X x) (hm : X.mg x = some (.ref fn)) (hk : PySem.W.keepIn X.K (.ref fn) = true) (hb : Binds X.K fd ps [])
    (ha : PA X (e :: es) (tAs X.kw fa)) (hdb : (x == ("__debug__" : Str)) = false := by decide) (he : starEach (e :: es) X.env = (false, eval e X.env) :: starEach es X.env := by rfl) (hpl : (backTo pos (starEach es X.env)).any (·.1) = false := by rfl) :
    PE X (.Call (.Name x p) (e :: es) [] pos) (tE X.kw (fCall np F fa)) := (pe_call G hr hg hm hk hb .nil pass0 ha hdb he hpl).by fun σ H Q ⟨st, n, H0, I, ev, w, E, sv, n', q, k⟩ => by
  unfold fCall at q
  split at q
  · cases q
  · rename_i as n1 q1
    split at q
    · rename_i hl
      refine ⟨st, n, H0, I, ev, w, E, as, n1, q1, fun vs I1 H1 x1 r1 => ?_⟩
      dsimp only
      rw [List.append_nil]
      exact ⟨by rw [r1.len]; exact hl, st, n1, I1, as, x1.w, r1, sv, n', q, fun v I2 H2 x2 r2 f2 => k v I2 H2 (x1.trans x2) r2 (Fr.back x1 r2 f2)⟩
    · cases q
/-- a rule for a built-in by what it is given -/
def CDo (K : KW) (r : List V → Hp → VK → Prop) (g : List Sv → Option Sv) : Prop := ∀ st n I H vs as sv (Q : VK), Wr st n I H → ArgsR K st I H vs as → g as = some sv → (∀ v I' H', Xt st n I H I' H' → SvR K st I' H' v sv → Fr H v sv → Q v H') → r vs H Q
def fBi (g : List Sv → Option Sv) (fa : FA) : FE := fun e n => match fa e n with
  | none => none
  | some (as, n1) => match g as with
    | none => none
    | some r => some (r, n1)
theorem t_cb {K : KW} {r g σ H} {Q : VK} (hd : CDo K r g) (h : tE K (fBi g fa) σ H Q) : tCB r (tAs K fa) σ H Q := by
  obtain ⟨st, n, H0, I, ev, w, E, sv, n', q, k⟩ := h
  unfold fBi at q
  split at q
  · cases q
  · rename_i as n1 q1
    split at q
    · cases q
    · rename_i rr q2
      cases q
      exact ⟨st, n, H0, I, ev, w, E, as, _, q1, fun vs I1 H1 x1 r1 => hd st _ I1 H1 vs as sv Q x1.w r1 q2 fun v I2 H2 x2 r2 f2 => k v I2 H2 (x1.trans x2) r2 (Fr.back x1 r2 f2)⟩
theorem e_bi {id : String} {r : List V → Hp → VK → Prop} {gg : List Sv → Option Sv} {x : Str} {p pos : Pos} (hc : CallR X (.builtin id) r) (hd : CDo X.kw r gg) (hg : Gl X x) (hm : X.mg x = none) (hv : bootBuiltins x = some (.builtin id)) (ha : PA X (e :: es) (tAs X.kw fa)) (hn : x ≠ "__name__" := by decide) (hdb : (x == ("__debug__" : Str)) = false := by decide)
    (he : starEach (e :: es) X.env = (false, eval e X.env) :: starEach es X.env := by rfl) (hpl : (backTo pos (starEach es X.env)).any (·.1) = false := by rfl) : PE X (.Call (.Name x p) (e :: es) [] pos) (tE X.kw (fBi gg fa)) :=
  (pe_callB hc hg hm hv ha hn hdb he hpl).by fun σ H Q h => t_cb hd h
theorem e_ty {T : String} {r : List V → Hp → VK → Prop} {gg : List Sv → Option Sv} {x : Str} {p pos : Pos} (hc : CallR X (.type T) r) (hd : CDo X.kw r gg) (hg : Gl X x) (hm : X.mg x = none) (hv : bootBuiltins x = some (.type T)) (ha : PA X (e :: es) (tAs X.kw fa)) (hn : x ≠ "__name__" := by decide) (hdb : (x == ("__debug__" : Str)) = false := by decide)
    (he : starEach (e :: es) X.env = (false, eval e X.env) :: starEach es X.env := by rfl) (hpl : (backTo pos (starEach es X.env)).any (·.1) = false := by rfl) : PE X (.Call (.Name x p) (e :: es) [] pos) (tE X.kw (fBi gg fa)) :=
  (pe_callTy hc hg hm hv ha hn hdb he hpl).by fun σ H Q h => t_cb hd h
end
/-- one argument, as it is seen -/
def see1 (g : PyData → Option Sv) : List Sv → Option Sv
  | [a] => match a.see with
    | some x => g x
    | none => none
  | _ => none
theorem see1_of {K : KW} {r} {g : PyData → Option Sv} (h : ∀ st n I H v x sv (Q : VK), Wr st n I H → See K I H v x → g x = some sv → (∀ v I' H', Xt st n I H I' H' → SvR K st I' H' v sv → Fr H v sv → Q v H') → r [v] H Q) : CDo K r (see1 g) := by
  intro st n I H vs as sv Q w ra e k
  cases ra with
  | nil => cases e
  | cons h1 h2 h3 =>
    rename_i v vs' a as'
    cases h3 with
    | nil =>
      unfold see1 at e
      cases q : a.see with
      | none => simp only [q] at e; cases e
      | some x =>
        simp only [q] at e
        exact h st n I H v x sv Q w (h1.see q) e k
    | cons _ _ _ => cases e
/-! len -/
def lenG (x : PyData) : Option Sv := match x with
  | .list xs => some (.d (.int xs.length))
  | .tuple xs => some (.d (.int xs.length))
  | .str z => if z.length ≤ big then some (.d (.int z.length)) else none
  | _ => none
def rLenA (K : KW) : List V → Hp → VK → Prop := fun xs H Q => (∃ p ys, xs = [.ref p] ∧ (SqL K H p ys ∨ SqT K H p ys) ∧ Q (.int ys.length) H) ∨ ∃ z, xs = [.str z] ∧ z.length ≤ sizeLine ∧ Q (.int z.length) H
section
variable {X : Cx} {K : KW}
theorem call_lenA : CallR X (.builtin "len") (rLenA X.kw) := fun pins s σ H xs us Q I r h => by
  rcases h with h | h
  · exact call_len_seq pins s σ H xs us Q I r h
  · exact call_len_str pins s σ H xs us Q I r h
theorem cd_lenA : CDo K (rLenA K) (see1 lenG) := see1_of fun st n I H v x sv Q w hs e k => by
  unfold lenG at e
  split at e
  · cases e
    obtain ⟨p, vs, e1, h1, h2⟩ := hs.lst w.im
    exact .inl ⟨p, vs, by rw [e1], .inl h1, by rw [DpAll.len h2]; exact k _ I H (.refl w) (.int _) trivial⟩
  · cases e
    obtain ⟨p, vs, e1, h1, _, h2⟩ := hs.tup w.im
    exact .inl ⟨p, vs, by rw [e1], .inr h1, by rw [DpAll.len h2]; exact k _ I H (.refl w) (.int _) trivial⟩
  · split at e
    · rename_i z hz
      cases e
      exact .inr ⟨z, by rw [hs.str], big_le hz, k _ I H (.refl w) (.int _) trivial⟩
    · cases e
  · cases e
/-! tuple, list -/
def tupG (x : PyData) : Option Sv := match x with
  | .list xs => some (.d (.tuple xs))
  | .tuple xs => some (.d (.tuple xs))
  | _ => none
def lstG (x : PyData) : Option Sv := match x with
  | .list xs => some (.cell xs)
  | .tuple xs => some (.cell xs)
  | _ => none
theorem cd_tup : CDo K (fun xs H Q => ∃ p ys, xs = [.ref p] ∧ ((SqL K H p ys ∧ ∀ l, H l = none → Q (.ref l) (upd H l (.tup ys))) ∨ (SqT K H p ys ∧ Q (.ref p) H))) (see1 tupG) := see1_of fun st n I H v x sv Q w hs e k => by
  unfold tupG at e
  split at e
  · cases e
    obtain ⟨p, vs, e1, h1, h2⟩ := hs.lst w.im
    refine ⟨p, vs, by rw [e1], .inl ⟨h1, fun l hl => ?_⟩⟩
    obtain ⟨x4, k4⟩ := dp_tupNew w h2 hl
    exact k _ _ _ x4 k4 trivial
  · cases e
    obtain ⟨p, vs, e1, h1, i1, h2⟩ := hs.tup w.im
    exact ⟨p, vs, by rw [e1], .inr ⟨h1, k _ I H (.refl w) (.tup i1 h2) trivial⟩⟩
  · cases e
theorem cd_lst : CDo K (fun xs H Q => ∃ p ys, xs = [.ref p] ∧ (SqL K H p ys ∨ SqT K H p ys) ∧ ∀ l, H l = none → Q (.ref l) (upd H l (.lst ys))) (see1 lstG) := see1_of fun st n I H v x sv Q w hs e k => by
  unfold lstG at e
  split at e
  · cases e
    obtain ⟨p, vs, e1, h1, h2⟩ := hs.lst w.im
    refine ⟨p, vs, by rw [e1], .inl h1, fun l hl => ?_⟩
    obtain ⟨x4, k4, k5⟩ := sv_cellNew w h2 hl
    exact k _ _ _ x4 k4 k5
  · cases e
    obtain ⟨p, vs, e1, h1, i1, h2⟩ := hs.tup w.im
    refine ⟨p, vs, by rw [e1], .inr h1, fun l hl => ?_⟩
    obtain ⟨x4, k4, k5⟩ := sv_cellNew w h2 hl
    exact k _ _ _ x4 k4 k5
  · cases e
/-! any, all -/
def bools : List PyData → Option (List Bool)
  | [] => some []
  | .bool b :: r => match bools r with
    | some bs => some (b :: bs)
    | none => none
  | _ :: _ => none
theorem bools_of : ∀ {xs : List PyData} {bs : List Bool}, bools xs = some bs → xs = bs.map PyData.bool
  | [], bs, h => by cases h; rfl
  | x :: r, bs, h => by
    cases x with
    | bool b =>
      unfold bools at h
      cases q : bools r with
      | none => simp only [q] at h; cases h
      | some cs => simp only [q] at h; cases h; rw [List.map_cons, bools_of q]
    | _ => cases h
theorem bls_of' {I : Hp} {bs : List Bool} {vs : List V} (h : DpAll K I vs (bs.map PyData.bool)) : vs = bs.map V.bl := bls_of h
def anyG (x : PyData) : Option Sv := match x with
  | .list xs => match bools xs with
    | some bs => some (.d (.bool (bs.any id)))
    | none => none
  | _ => none
def allG (x : PyData) : Option Sv := match x with
  | .list xs => match bools xs with
    | some bs => some (.d (.bool (bs.all id)))
    | none => none
  | _ => none
theorem cd_anyA : CDo K (rAny K) (see1 anyG) := see1_of fun st n I H v x sv Q w hs e k => by
  unfold anyG at e
  split at e
  · split at e
    · rename_i xs bs q
      cases e
      obtain ⟨p, vs, e1, h1, h2⟩ := hs.lst w.im
      rw [bools_of q] at h2
      exact ⟨p, bs, by rw [e1], by rw [← bls_of h2]; exact h1, k _ I H (.refl w) (.bl _) trivial⟩
    · cases e
  · cases e
theorem cd_allA : CDo K (rAll K) (see1 allG) := see1_of fun st n I H v x sv Q w hs e k => by
  unfold allG at e
  split at e
  · split at e
    · rename_i xs bs q
      cases e
      obtain ⟨p, vs, e1, h1, h2⟩ := hs.lst w.im
      rw [bools_of q] at h2
      exact ⟨p, bs, by rw [e1], by rw [← bls_of h2]; exact h1, k _ I H (.refl w) (.bl _) trivial⟩
    · cases e
  · cases e
/-! sum, min, max of ints -/
def intsD : List PyData → Option (List Int)
  | [] => some []
  | .int b :: r => match intsD r with
    | some bs => some (b :: bs)
    | none => none
  | _ :: _ => none
theorem intsD_of : ∀ {xs : List PyData} {bs : List Int}, intsD xs = some bs → xs = bs.map PyData.int
  | [], bs, h => by cases h; rfl
  | x :: r, bs, h => by
    cases x with
    | int b =>
      unfold intsD at h
      cases q : intsD r with
      | none => simp only [q] at h; cases h
      | some cs => simp only [q] at h; cases h; rw [List.map_cons, intsD_of q]
    | _ => cases h
theorem ints_vs {I : Hp} : ∀ {bs : List Int} {vs : List V}, DpAll K I vs (bs.map PyData.int) → vs = bs.map V.int
  | [], _, h => by cases h; rfl
  | b :: bs, _, h => by
    cases h with
    | cons h1 h2 =>
      cases h1
      rw [ints_vs h2]
      rfl
def sumG (x : PyData) : Option Sv := match x with
  | .list xs => match intsD xs with
    | some bs => some (.d (.int bs.sum))
    | none => none
  | _ => none
theorem cd_sum : CDo K (rSum K) (see1 sumG) := see1_of fun st n I H v x sv Q w hs e k => by
  unfold sumG at e
  split at e
  · split at e
    · rename_i xs bs q
      cases e
      obtain ⟨p, vs, e1, h1, h2⟩ := hs.lst w.im
      rw [intsD_of q] at h2
      exact ⟨p, bs, by rw [e1], by rw [← ints_vs h2]; exact h1, k _ I H (.refl w) (.int _) trivial⟩
    · cases e
  · cases e
def leastI : List Int → Option Int
  | [] => none
  | x :: r => some (r.foldl min x)
theorem foldl_min_le : ∀ (r : List Int) (x : Int), r.foldl min x ≤ x ∧ ∀ y ∈ r, r.foldl min x ≤ y
  | [], x => ⟨Int.le_refl _, fun _ h => by cases h⟩
  | z :: r, x => by
    obtain ⟨h1, h2⟩ := foldl_min_le r (min x z)
    refine ⟨Int.le_trans h1 (Int.min_le_left _ _), fun y hy => ?_⟩
    rcases List.mem_cons.mp hy with e | e
    · subst e; exact Int.le_trans h1 (Int.min_le_right _ _)
    · exact h2 y e
theorem foldl_min_mem : ∀ (r : List Int) (x : Int), r.foldl min x = x ∨ r.foldl min x ∈ r
  | [], x => .inl rfl
  | z :: r, x => by
    rcases foldl_min_mem r (min x z) with h | h
    · by_cases hz : x ≤ z
      · rw [List.foldl_cons, h, Int.min_eq_left hz]; exact .inl rfl
      · rw [List.foldl_cons, h, Int.min_eq_right (by omega)]; exact .inr List.mem_cons_self
    · exact .inr (List.mem_cons_of_mem _ h)
def minG (x : PyData) : Option Sv := match x with
  | .list xs => match intsD xs with
    | some bs => match leastI bs with
      | some m => some (.d (.int m))
      | none => none
    | none => none
  | _ => none
theorem cd_minL : CDo K (rMin K) (see1 minG) := see1_of fun st n I H v x sv Q w hs e k => by
  unfold minG at e
  split at e
  · split at e
    · split at e
      · rename_i xs _ bs q _ m hm
        cases e
        obtain ⟨p, vs, e1, h1, h2⟩ := hs.lst w.im
        rw [intsD_of q] at h2
        cases bs with
        | nil => cases hm
        | cons b r =>
          have hm' : r.foldl min b = m := Option.some.inj hm
          refine ⟨p, b :: r, by rw [e1], by rw [← ints_vs h2]; exact h1, Nat.succ_pos _, fun m' h3 h4 => ?_⟩
          obtain ⟨l1, l2⟩ := foldl_min_le r b
          have le1 : m ≤ m' := by
            rw [← hm']
            rcases List.mem_cons.mp h3 with z | z
            · rw [z]; exact l1
            · exact l2 m' z
          have le2 : m' ≤ m := by
            rw [← hm']
            rcases foldl_min_mem r b with z | z
            · rw [z]; exact h4 b List.mem_cons_self
            · exact h4 _ (List.mem_cons_of_mem _ z)
          have : m' = m := Int.le_antisymm le2 le1
          rw [this]
          exact k _ I H (.refl w) (.int _) trivial
      · cases e
    · cases e
  · cases e
/-! min(a, b) -/
def min2G : List Sv → Option Sv
  | [.d (.int i), .d (.int j)] => some (.d (.int (if j < i then j else i)))
  | _ => none
theorem cd_min2 : CDo K (fun xs H Q => ∃ i j, xs = [.int i, .int j] ∧ Q (.int (if j < i then j else i)) H) min2G := by
  intro st n I H vs as sv Q w ra e k
  unfold min2G at e
  split at e
  · rename_i i j
    cases e
    cases ra with
    | cons h1 _ h3 =>
      cases h3 with
      | cons h4 _ h5 =>
        cases h5
        cases h1
        cases h4
        exact ⟨_, _, rfl, k _ I H (.refl w) (.int _) trivial⟩
  · cases e
def rMinA (K : KW) : List V → Hp → VK → Prop := fun xs H Q => (∃ i j, xs = [.int i, .int j] ∧ Q (.int (if j < i then j else i)) H) ∨ rMin K xs H Q
theorem call_minA (hc : X.calm = true) : CallR X (.builtin "min") (rMinA X.kw) := fun pins s σ H xs us Q I r h => by
  rcases h with h | h
  · exact call_min2 hc pins s σ H xs us Q I r h
  · exact cr_min hc pins s σ H xs us Q I r h
def minAG (as : List Sv) : Option Sv := match as with
  | [_, _] => min2G as
  | _ => see1 minG as
theorem cd_minA : CDo K (rMinA K) minAG := by
  intro st n I H vs as sv Q w ra e k
  unfold minAG at e
  split at e
  · exact .inl (cd_min2 st n I H vs _ sv Q w ra e k)
  · exact .inr (cd_minL st n I H vs _ sv Q w ra e k)
/-! sorted -/
def sortOk (ds : List PyData) : Bool := ds.all (fun d => ds.all fun e => PySem.W.alike d e) && (ds.all isT || ds.all (fun d => match d with
    | .none => false
    | .tuple _ => false
    | _ => true)) && ds.all (fun d => decide (d.depth ≤ 60)) && decide (ds.length ≤ big)
theorem sortOk_of {ds : List PyData} (h : sortOk ds = true) : PySem.W.AllAlike ds ∧ Sortable2 ds ∧ (∀ d ∈ ds, d.depth ≤ 60) ∧ ds.length ≤ big := by
  unfold sortOk at h
  simp only [Bool.and_eq_true, List.all_eq_true, Bool.or_eq_true, decide_eq_true_eq] at h
  obtain ⟨⟨⟨h1, h2⟩, h3⟩, h4⟩ := h
  refine ⟨fun d hd e he => h1 d hd e he, ?_, h3, h4⟩
  rcases h2 with h2 | h2
  · exact .inr h2
  · refine .inl (.inr fun d hd => ?_)
    have q := h2 d hd
    split at q
    · cases q
    · cases q
    · rename_i q1 q2
      exact ⟨q1, q2⟩
def sortD (ds : List PyData) : List PyData := ds.mergeSort (PySem.W.dataLe false id)
def rSortedG (K : KW) : List V → Hp → VK → Prop := fun vs H Q => ∃ (a : Addr) (xs : List V) (ds : List PyData), vs = [.ref a] ∧ (SqL K H a xs ∨ SqT K H a xs) ∧ DpAll K H xs ds ∧ sortOk ds = true ∧
  ∀ p, H p = none → Q (.ref p) (upd H p (.lst (((xs.zip ds).mergeSort (PySem.W.dataLe false Prod.snd)).map Prod.fst)))
end
end Sb

/-! P3: sorted of a list, a tuple, a text. -/
namespace Sb
open PySem PySem.Spec PyProof.Rows L2
section
variable {P : Program} {w : World} {A : Around} {E : Value → Shared → Prop} {s : Shared}
abbrev RelZ (v : Value) (b : V × PyData) : Prop := RelV b.1 v
theorem sortedC {Q : Value → Shared → Prop} {x : Value} {zs : List (V × PyData)}
    (col : ∀ Q' : List Value → Shared → Prop, (∀ s1 us, (∀ b o, s.heap.get? b = some o → s1.heap.get? b = some o) → s1.gens = s.gens → s1.os = s.os → PySem.W.EachIs RelZ us zs → PySem.W.EachIs (fun v b => ∃ as, Reads s1.heap v b.2 as) us zs → Q' us s1) → wpAny (model P w) A.in1 (collect x) Q' E s)
    (hal : PySem.W.AllAlike (zs.map Prod.snd)) (hk : Sortable2 (zs.map Prod.snd)) (hL : zs.length ≤ sizeLine) (hu : ∀ b ∈ zs, A.units + 2 + b.2.depth < cLine)
    (q : ∀ s' p (out : Array Value) (c : Nat), (∀ b o, s.heap.get? b = some o → s'.heap.get? b = some o) → s'.gens = s.gens → s'.os = s.os → s.heap.get? p = none → s'.heap.get? p = some (seqObj "list" out c) →
      Vals ((zs.mergeSort (PySem.W.dataLe false Prod.snd)).map Prod.fst) out.toList → Q (.ref p) s') : wpAny (model P w) A (call (.builtin "sorted") [x]) Q E s := by
  refine Calls.call_function_entry kind_sorted plain_sorted entry_sorted (args_sorted1 _) ?_
  unfold Builtin.«sorted»
  refine wpAny_bind (m := checkCount "sorted" 1 1 _) (wpAny_pure (wpAny_bind ?_))
  refine col _ fun s1 us z1 z2 z3 e1 e2 => ?_
  have hl : us.length = zs.length := e1.length
  refine wpAny_bind (wpAny_newList ?_ (by rw [hl]; exact hL))
  have ho : (s1.heap.push (seqObj "list" us.toArray 0)).get? s1.heap.objs.size = some (seqObj "list" us.toArray 0) := Heap.get?_push_size _ rfl
  have old : ∀ b o, s1.heap.get? b = some o → (PySem.W.sortingHeap (s1.heap.push (seqObj "list" us.toArray 0)) s1.heap.objs.size us).get? b = some o := fun b o h =>
    PySem.W.sortingHeap_old (Nat.ne_of_lt (Heap.lt_size h)) (Heap.get?_push_of_some _ h)
  have er : PySem.W.EachIs (fun v (b : V × PyData) => ∃ as, Reads (PySem.W.sortingHeap (s1.heap.push (seqObj "list" us.toArray 0)) s1.heap.objs.size us) v b.2 as) us zs :=
    e2.mono fun _ _ ⟨as, r⟩ => ⟨as, PyProof.Rows.Reads.keeps (fun _ _ h => old _ _ h) r⟩
  have hu2 : ∀ d, d ∈ zs.map Prod.snd → (A.units + 2) + d.depth < cLine := fun d hd => by
    obtain ⟨b, hb, rfl⟩ := List.mem_map.mp hd
    exact hu b hb
  refine wpAny_bind (wpAny_holding (wpAny_call_entry_kw slot_list_sort ⟨_, ho, rfl⟩ entry_list_sort ?sb_body (args_list_sort _)))
  case sb_body =>
    refine PySem.W.list_sort_vals (s := { s1 with heap := s1.heap.push (seqObj "list" us.toArray 0) }) ho (sorts2 (s := { s1 with heap := PySem.W.sortingHeap (s1.heap.push (seqObj "list" us.toArray 0)) s1.heap.objs.size us }) (PySem.W.each_map (R := fun v d => ∃ as, Reads (PySem.W.sortingHeap (s1.heap.push (seqObj "list" us.toArray 0)) s1.heap.objs.size us) v d as) Prod.snd er) hal hk ?_) (by rw [hl]; exact hL) ?_
    · exact hu2
    · refine ⟨_, rfl, wpAny_pure ⟨_, rfl, ?_⟩⟩
      have ev := PySem.W.sortVals_data false e1 er hal
      obtain ⟨c, hc⟩ := sortedHeap_at (vs := us) (out := (PySem.W.sortVals (PySem.W.dataKind (PySem.W.sortingHeap (s1.heap.push (seqObj "list" us.toArray 0)) s1.heap.objs.size us) (zs.map Prod.snd)) false us us).toArray) ho
      refine q _ s1.heap.objs.size _ c (fun b u e => ?_) z2 z3 ?_ hc (vals_each ev)
      · have e1 := z1 b u e
        have lt := Heap.lt_size e1
        refine (sortedHeap_old (Nat.ne_of_lt lt) ?_).trans (Heap.get?_push_of_some _ e1)
        rw [size_push']
        exact Nat.lt_succ_of_lt lt
      · cases hs : s.heap.get? s1.heap.objs.size with
        | none => rfl
        | some o => exact absurd (Heap.lt_size (z1 _ _ hs)) (Nat.lt_irrefl _)
end
section
variable {K : KW}
theorem dpAll_zip {I : Hp} : ∀ {zs : List (V × PyData)}, (∀ z ∈ zs, Dp K I z.1 z.2) → DpAll K I (zs.map Prod.fst) (zs.map Prod.snd)
  | [], _ => .nil
  | z :: zs, h => .cons (h z List.mem_cons_self) (dpAll_zip fun y hy => h y (List.mem_cons_of_mem _ hy))
theorem zip_dp {I : Hp} : ∀ {vs : List V} {ds : List PyData}, DpAll K I vs ds → ∀ z ∈ vs.zip ds, Dp K I z.1 z.2
  | [], _, h, z, hz => by cases h; cases hz
  | _ :: _, _, h, z, hz => by
    cases h with
    | cons h1 h2 =>
      rcases List.mem_cons.mp hz with e | e
      · subst e; exact h1
      · exact zip_dp h2 z e
theorem sort_zip {I : Hp} {vs : List V} {ds : List PyData} (h : DpAll K I vs ds) : DpAll K I (((vs.zip ds).mergeSort (PySem.W.dataLe false Prod.snd)).map Prod.fst) (sortD ds) := by
  have e : sortD ds = ((vs.zip ds).mergeSort (PySem.W.dataLe false Prod.snd)).map Prod.snd := by
    rw [List.map_mergeSort (r := PySem.W.dataLe false Prod.snd) (s := PySem.W.dataLe false id) (f := Prod.snd) (l := vs.zip ds) (fun a _ b _ => rfl), snd_zip (DpAll.len h)]
    rfl
  rw [e]
  exact dpAll_zip fun z hz => zip_dp h z (List.mem_mergeSort.mp hz)
end
section
variable {X : Cx}
/-- sorted of a list, a tuple -/
def rSortS (K : KW) : List V → Hp → VK → Prop := fun vs H Q => ∃ (a : Addr) (xs : List V) (ds : List PyData), vs = [.ref a] ∧ (SqL K H a xs ∨ SqT K H a xs) ∧ DpAll K H xs ds ∧ sortOk ds = true ∧
  ∀ p, H p = none → Q (.ref p) (upd H p (.lst (((xs.zip ds).mergeSort (PySem.W.dataLe false Prod.snd)).map Prod.fst)))
theorem cr_sortS (hu : X.A.units + 64 < cLine) : CallR X (.builtin "sorted") (rSortS X.kw) := by
  intro pins s σ H vs us Q I r ⟨a, xs, ds, e, hs, hd, ok, q⟩
  subst e
  obtain ⟨hal, hk, hdp, hlen⟩ := sortOk_of ok
  have el : xs.length = ds.length := DpAll.len hd
  have ez : (xs.zip ds).map Prod.snd = ds := snd_zip el
  have hl2 : (xs.zip ds).length = ds.length := by rw [List.length_zip, el, Nat.min_self]
  rw [Vals.ref1 r]
  refine sortedC (zs := xs.zip ds) (fun Q' k => ?_) (by rw [ez]; exact hal) (by rw [ez]; exact hk) (by rw [hl2]; exact big_le hlen) (fun b hb => ?_) fun s' p out c z1 z2 z3 z4 z5 z6 => ?_
  · rcases hs with hs | hs
    · obtain ⟨its, rv, ⟨o, n, ho, hc, _, hdt⟩, hz⟩ := I.list hs
      have hz' : its.length ≤ sizeLine := by rw [← rv.length]; exact hz
      refine wpAny_collect_seq a (.inl rfl) ho hc hdt (fun h' hk => ?_) (by simpa using hz')
      exact k _ _ hk rfl rfl (each_rel rv el) ((each_reads I rv hd).mono fun _ _ ⟨as, z⟩ => ⟨as, PyProof.Rows.Reads.keeps (fun _ _ y => hk _ _ y) z⟩)
    · obtain ⟨its, rv, ⟨o, ho, hc, n, hdt⟩, hz⟩ := I.tuple hs
      have hz' : its.length ≤ sizeLine := by rw [← rv.length]; exact hz
      refine wpAny_collect_seq a (.inr rfl) ho hc hdt (fun h' hk => ?_) (by simpa using hz')
      exact k _ _ hk rfl rfl (each_rel rv el) ((each_reads I rv hd).mono fun _ _ ⟨as, z⟩ => ⟨as, PyProof.Rows.Reads.keeps (fun _ _ y => hk _ _ y) z⟩)
  · have := hdp b.2 (by rw [← ez]; exact List.mem_map_of_mem hb)
    omega
  · have hn := I.hok.gone z4
    have len : (((xs.zip ds).mergeSort (PySem.W.dataLe false Prod.snd)).map Prod.fst).length ≤ sizeLine := by
      rw [List.length_map, List.length_mergeSort, hl2]
      exact big_le hlen
    have J : Inv X pins σ (upd H p (.lst (((xs.zip ds).mergeSort (PySem.W.dataLe false Prod.snd)).map Prod.fst))) { s with heap := s'.heap, gens := s'.gens, drawn := s'.drawn, toks := s'.toks } :=
      I.call (ch := []) (Un.laidN z1 z4 hn) (I.hok.laidN z1 hn ⟨len, out.toList, c, z6, z5⟩) (by rw [z2]; exact I.bare) nofun
    have es' : s' = { s with heap := s'.heap, gens := s'.gens, drawn := s'.drawn, toks := s'.toks } := by
      cases s
      cases s'
      cases z3
      rfl
    rw [es']
    exact ⟨.ref p, _, J, rfl, q p hn⟩
/-! sorted of a text -/
def signs (z : Str) : List Str := z.cps.toList.map fun c => ⟨#[c]⟩
def rSortZ : List V → Hp → VK → Prop := fun vs H Q => ∃ z, vs = [.str z] ∧ z.length ≤ big ∧ ∀ p, H p = none → Q (.ref p) (upd H p (.lst (((signs z).mergeSort fun a b => !PySem.W.dataLt (.str b) (.str a)).map V.str)))
theorem cr_sortZ (hc : X.calm = true) (hu : X.A.units + 64 < cLine) : CallR X (.builtin "sorted") rSortZ := by
  intro pins s σ H vs us Q I r ⟨z, e, hz, q⟩
  subst e
  cases r with
  | cons r0 rr =>
    cases rr
    obtain ⟨t, rfl⟩ := r0
    have e1 : ((signs z).map fun c => (V.str c, PyData.str c)).map Prod.snd = (signs z).map PyData.str := by rw [List.map_map]; rfl
    have hlz : (signs z).length = z.cps.size := by unfold signs; rw [List.length_map, Array.length_toList]
    have hlen : (signs z).length ≤ sizeLine := by rw [hlz]; exact big_le hz
    refine sortedC (zs := (signs z).map fun c => (V.str c, PyData.str c)) (fun Q' k => ?_) ?_ ?_ (by rw [List.length_map]; exact hlen) (fun b hb => ?_) fun s' p out c z1 z2 z3 z4 z5 z6 => ?_
    · refine wpAny_collect_str (A := X.A.in1) (I.ok.hd hc) z t (fun s1 acc k1 k2 k3 k4 its => ?_) (big_le hz)
      have ev : ∀ (cs : List Nat) (j : Nat) (us : List Value), us.length = cs.length → (∀ (i : Nat) (v : Value), us[i]? = some v → ∃ c u, cs[i]? = some c ∧ v = Value.str ⟨#[c]⟩ u) →
          PySem.W.EachIs (fun v (b : V × PyData) => ∃ c u, v = Value.str ⟨#[c]⟩ u ∧ b = (V.str ⟨#[c]⟩, PyData.str ⟨#[c]⟩)) us ((cs.map fun c => (⟨#[c]⟩ : Str)).map fun c => (V.str c, PyData.str c)) := by
        intro cs
        induction cs with
        | nil =>
          intro j us hl _
          cases us with
          | nil => exact .nil
          | cons _ _ => cases hl
        | cons c cs ih =>
          intro j us hl hv
          cases us with
          | nil => cases hl
          | cons u us =>
            obtain ⟨c', t', h1, h2⟩ := hv 0 u rfl
            cases h1
            exact .cons ⟨_, _, h2, rfl⟩ (ih (j + 1) us (by simpa using hl) fun i v h => by simpa using hv (i + 1) v (by simpa using h))
      have all := ev z.cps.toList 0 acc.toList (by rw [Array.length_toList, Array.length_toList]; exact its.1) (fun i v h => by
        obtain ⟨c, u, h1, h2⟩ := its.2 i v (by simpa using h)
        exact ⟨c, u, by simpa using h1, h2⟩)
      refine k _ _ k1 k2 k4 (all.mono fun v b ⟨c, u, e1, e2⟩ => ?_) (all.mono fun v b ⟨c, u, e1, e2⟩ => ?_)
      · subst e1 e2
        exact ⟨_, rfl⟩
      · subst e1 e2
        exact ⟨_, Reads.str _ _⟩
    · rw [e1]
      intro d hd d' hd'
      obtain ⟨c, _, rfl⟩ := List.mem_map.mp hd
      obtain ⟨c', _, rfl⟩ := List.mem_map.mp hd'
      rfl
    · rw [e1]
      refine .inl (.inr fun d hd => ?_)
      obtain ⟨c, _, rfl⟩ := List.mem_map.mp hd
      exact ⟨nofun, nofun⟩
    · obtain ⟨c, _, rfl⟩ := List.mem_map.mp hb
      show X.A.units + 2 + 0 < cLine
      omega
    · have hn := I.hok.gone z4
      have es : (((signs z).map fun c => (V.str c, PyData.str c)).mergeSort (PySem.W.dataLe false Prod.snd)).map Prod.fst = ((signs z).mergeSort fun a b => !PySem.W.dataLt (.str b) (.str a)).map V.str := by
        rw [← List.map_mergeSort (r := fun a b => !PySem.W.dataLt (.str b) (.str a)) (s := PySem.W.dataLe false Prod.snd) (f := fun c => (V.str c, PyData.str c)) (l := signs z) (fun a _ b _ => rfl), List.map_map]
        rfl
      rw [es] at z6
      have len : (((signs z).mergeSort fun a b => !PySem.W.dataLt (.str b) (.str a)).map V.str).length ≤ sizeLine := by
        rw [List.length_map, List.length_mergeSort]
        exact hlen
      have J : Inv X pins σ (upd H p (.lst (((signs z).mergeSort fun a b => !PySem.W.dataLt (.str b) (.str a)).map V.str))) { s with heap := s'.heap, gens := s'.gens, drawn := s'.drawn, toks := s'.toks } :=
        I.call (ch := []) (Un.laidN z1 z4 hn) (I.hok.laidN z1 hn ⟨len, out.toList, c, z6, z5⟩) (by rw [z2]; exact I.bare) nofun
      have es' : s' = { s with heap := s'.heap, gens := s'.gens, drawn := s'.drawn, toks := s'.toks } := by
        cases s
        cases s'
        cases z3
        rfl
      rw [es']
      exact ⟨.ref p, _, J, rfl, q p hn⟩
def rSortAll (K : KW) : List V → Hp → VK → Prop := fun vs H Q => rSortS K vs H Q ∨ rSortZ vs H Q
theorem cr_sortAll (hc : X.calm = true) (hu : X.A.units + 64 < cLine) : CallR X (.builtin "sorted") (rSortAll X.kw) := fun pins s σ H xs us Q I r h => by
  rcases h with h | h
  · exact cr_sortS hu pins s σ H xs us Q I r h
  · exact cr_sortZ hc hu pins s σ H xs us Q I r h
def sortZ (z : Str) : List Str := (signs z).mergeSort fun a b => !PySem.W.dataLt (.str b) (.str a)
def sortG (x : PyData) : Option Sv := match x with
  | .list xs => if sortOk xs = true then some (.cell (sortD xs)) else none
  | .tuple xs => if sortOk xs = true then some (.cell (sortD xs)) else none
  | .str z => if z.length ≤ big then some (.cell ((sortZ z).map PyData.str)) else none
  | _ => none
theorem DpAll.strs' {K : KW} {H : Hp} : ∀ ns : List Str, DpAll K H (ns.map V.str) (ns.map PyData.str)
  | [] => .nil
  | n :: ns => .cons (.str n) (DpAll.strs' ns)
theorem cd_sortAll {K : KW} : CDo K (rSortAll K) (see1 sortG) := see1_of fun st n I H v x sv Q w hs e k => by
  unfold sortG at e
  split at e
  · split at e
    · rename_i xs ok
      cases e
      obtain ⟨p, vs, e1, h1, h2⟩ := hs.lst w.im
      refine .inl ⟨p, vs, xs, by rw [e1], .inl h1, DpAll.mono w.im.sub _ _ h2, ok, fun p' hp => ?_⟩
      obtain ⟨x4, k4, k5⟩ := sv_cellNew w (sort_zip h2) hp
      exact k _ _ _ x4 k4 k5
    · cases e
  · split at e
    · rename_i xs ok
      cases e
      obtain ⟨p, vs, e1, h1, _, h2⟩ := hs.tup w.im
      refine .inl ⟨p, vs, xs, by rw [e1], .inr h1, DpAll.mono w.im.sub _ _ h2, ok, fun p' hp => ?_⟩
      obtain ⟨x4, k4, k5⟩ := sv_cellNew w (sort_zip h2) hp
      exact k _ _ _ x4 k4 k5
    · cases e
  · split at e
    · rename_i z hz
      cases e
      refine .inr ⟨z, by rw [hs.str], hz, fun p' hp => ?_⟩
      obtain ⟨x4, k4, k5⟩ := sv_cellNew w (DpAll.strs' (sortZ z)) hp
      exact k _ _ _ x4 k4 k5
    · cases e
  · cases e
end
end Sb

/-! P4e: enumerate(a tuple). -/
namespace Sb
open PySem PySem.Spec PyProof.Rows L2
abbrev enumO (i : Addr) : Obj := { cls := .type "enumerate", data := .fields #[.none, .bool false, .ref i, rawInt 0, .none, .none] }
abbrev titO (a : Addr) : Obj := { cls := .type "tuple_iterator", data := .fields #[.ref a, .int 0 0] }
theorem enumT_made (a : Addr) (zs : Array Value) : Meets (Builtin.«enumerate.__new__» ⟨[.type "enumerate", .ref a], []⟩)
    (fun _ R s => s.heap.IsTuple a zs ∧ R (.ok (.ret (.ref (s.heap.push (titO a)).objs.size))) { s with heap := (s.heap.push (titO a)).push (enumO s.heap.objs.size) }) :=
  .of_wp fun P w A R s z => by
    obtain ⟨H, c1, c2, c3, c4⟩ := s
    obtain ⟨z1, z2⟩ := z
    have f1 := sub_enumerate
    have it : ∀ {B : Around} {E Q : Value → Shared → Prop}, Q (.ref H.objs.size) ⟨H.push (titO a), c1, c2, c3, c4⟩ → wpAny (model P w) B (pyIter (.ref a)) Q E ⟨H, c1, c2, c3, c4⟩ := fun q => wpAny_pyIter_tuple z1 q
    wp_walk using it
    refine wpAny_stack_any fun _ => wpAny_pure ?_
    split
    · rename_i c _ _ _ _ _
      cases (c == Value.type "enumerate") <;> (wp_walk using it; exact ⟨_, rfl, z2⟩)
    · wp_walk using it
      exact ⟨_, rfl, z2⟩
/-- the tuple at a, each item in a new pair with its place -/
def IteT (K : PySem.W.Frag) (a : Addr) : It :=
  ⟨fun i H => ∃ (zs : List V) (z : V), SqT K H a zs ∧ zs[i]? = some z, fun i H v G => ∃ T z, v = .ref T ∧ H T = none ∧ G = upd H T (.tup [.int (i : Nat), z]) ∧ ∀ zs, SqT K H a zs → zs[i]? = some z, fun i H => ∃ zs : List V, SqT K H a zs ∧ zs.length = i⟩
section
variable {P : Program} {w : World} {K : PySem.W.Frag} {elts : List Expr} {kk : Nat} {tpos : Pos}
theorem turn_enumT (a e it : Addr) : Turn P w K (.Tuple elts kk tpos) (IteT K a) [e, it] e
    (fun i h => (∃ old, IsEnum h e it ((i : Nat) : Int) old) ∧ h.IsTupleIter it a i ∧ e ≠ it) := by
  have two : ∀ {b : Addr}, b ∈ [e, it] → b = e ∨ b = it := fun hb => by simpa using hb
  have apart : ∀ {h : Heap} {zs : Array Value} {i : Nat} {old : Value}, h.IsTuple a zs → IsEnum h e it i old → h.IsTupleIter it a i → a ≠ it ∧ a ≠ e := by
    intro h zs i old ⟨o, g1, g2, _⟩ g3 ⟨o', g4, g5, _⟩
    refine ⟨fun z => ?_, fun z => ?_⟩
    · rw [z, g4] at g1
      cases g1
      rw [g2] at g5
      exact absurd (Value.type.inj g5) (by decide)
    · rw [z, g3] at g1
      rw [← Option.some.inj g1] at g2
      exact absurd (Value.type.inj g2) (by decide)
  refine { mem := List.mem_cons_self, obj := ?_, keep := ?_, item := ?_, done := ?_, self := fun _ _ _ _ _ x h => by obtain ⟨⟨_, y⟩, _⟩ := x; exact wpAny_pyIter_enum y h }
  · rintro i h ⟨⟨old, g⟩, ⟨o, g1, g2, g3⟩, _⟩ b hb
    rcases two hb with z | z <;> subst z
    · exact ⟨_, g, nofun⟩
    · exact ⟨o, g1, fun v q => by rw [g3] at q; cases q⟩
  · rintro i h h' ⟨⟨old, g⟩, g1, g2⟩ k
    exact ⟨⟨old, k e (by simp) _ g⟩, g1.at fun o q => k it (by simp) o q, g2⟩
  · intro X hP hw hK hc i pins s σ H E I hf st hg
    subst hP hw hK
    obtain ⟨⟨old, g⟩, g1, g2⟩ := st
    obtain ⟨zs, z, hq, hx⟩ := hg
    obtain ⟨its, rv, p, hz⟩ := I.tuple hq
    have p' : s.heap.IsTuple a its.toArray := p
    obtain ⟨u, hu, ru⟩ := rv.get hx
    obtain ⟨n1, n2⟩ := apart p' g g1
    have le : e < s.heap.objs.size := Heap.lt_size g
    have li : it < s.heap.objs.size := by obtain ⟨_, q, _⟩ := g1; exact Heap.lt_size q
    have lt : i < its.toArray.size := by
      have := (List.getElem?_eq_some_iff.mp hu).1
      simpa using this
    refine wpAny_pyNext_enum_itemD (A := X.A) (Draws.tuple (A := X.A.in1) (I.ok.hd hc) it a n1 its.toArray) g ⟨g1, p'⟩ lt g2 (by simp [g2, Ne.symm n2]) fun x h' tk hx' ho st' hT _ kk => ?_
    have ex : x = u := by
      have q1 : its[i]? = some x := by simpa using hx'
      rw [hu] at q1
      exact (Option.some.inj q1).symm
    subst ex
    refine ⟨_, rfl, wpAny_letOwnedTupleGo_enum (s := { s with heap := h', toks := tk + 1 }) ho fun h2 ho2 sb => ?_⟩
    have e1 : h2.get? s.heap.objs.size = some { cls := .type "tuple", data := .seq #[.int i tk, x] } := (sb.2 _ (Nat.ne_of_gt le)).trans hT
    have ok : ObjOk X.prog X.w (upd H s.heap.objs.size (.tup [.int (i : Nat), z])) h2 s.heap.objs.size (.tup [.int (i : Nat), z]) :=
      ⟨(by decide : 2 ≤ sizeLine), _, .cons ⟨_, rfl⟩ (.cons ru .nil), _, e1, rfl, _, rfl⟩
    have J : Inv X pins σ (upd H s.heap.objs.size (.tup [.int (i : Nat), z])) { s with heap := h2, toks := tk + 1 } :=
      I.turnedNew (ch := [e, it]) (fun b ob hb q => by
        have b1 : b ≠ e := fun y => hb (by simp [y])
        have b2 : b ≠ it := fun y => hb (by simp [y])
        exact (sb.2 b b1).trans (kk b ob b1 b2 q)) hf (Nat.le_refl _) ok
    have es : ((i + 1 : Nat) : Int) = (i : Int) + 1 := by omega
    refine ⟨.ref s.heap.objs.size, _, J, rfl, ⟨_, z, rfl, I.hok.fresh (Nat.le_refl _), rfl, fun ys hy => ?_⟩, ⟨⟨x, by rw [es]; exact ho2⟩, st'.1.at fun o q => (sb.2 it (Ne.symm g2)).trans q, g2⟩, fun b hb => ?_⟩
    · rw [I.tuple_inj hy hq]
      exact hx
    · have lb : b < s.heap.objs.size := by rcases two hb with y | y <;> (rw [y]; assumption)
      rw [upd_ne (Nat.ne_of_lt lb)]
      exact (hf b hb).1
  · intro X hP hw hK hc i pins s σ H E I hf st hg
    subst hP hw hK
    obtain ⟨⟨old, g⟩, g1, g2⟩ := st
    obtain ⟨zs, hq, hx⟩ := hg
    obtain ⟨its, rv, p, hz⟩ := I.tuple hq
    have p' : s.heap.IsTuple a its.toArray := p
    obtain ⟨n1, n2⟩ := apart p' g g1
    obtain ⟨f0, f1, f2, f3, f4, f5⟩ := hf it (by simp)
    have hl := rv.length
    have ei : i = its.toArray.size := by rw [List.size_toArray, ← hl]; exact hx.symm
    have g1' : s.heap.IsTupleIter it a its.toArray.size := by rw [← ei]; exact g1
    refine wpAny_pyNext_enum_endD (A := X.A) (Draws.tuple (A := X.A.in1) (I.ok.hd hc) it a n1 its.toArray) g ⟨g1', p'⟩ fun h' eb => ⟨rfl, ?_⟩
    exact I.turned (t' := s.toks) (fun b o hb q => eb b o hb q) f0 f1 f3 f4 f5
def iEnumT (K : PySem.W.Frag) (ta : TA) : TI := fun σ H R => ta σ H fun vs G => ∃ a zs, vs = [.ref a] ∧ SqT K G a zs ∧ R (IteT K a) G
theorem pi_enumT {X : Cx} {e : Expr} {ta : TA} {p pos tpos : Pos} {elts : List Expr} {kk : Nat} (hg : Gl X "enumerate") (hm : X.mg "enumerate" = none) (ha : PA X [e] ta) (hs : starEach [e] X.env = [(false, eval e X.env)] := by rfl) :
    PI X (.Tuple elts kk tpos) (.Call (.Name "enumerate" p) [e] [] pos) (iEnumT X.K ta) := by
  refine ⟨fun pins s σ H R I h => Call_ (ld_blt I hg hm boot_enumerate (PyProof.Rows.callWith_type1 (thn (ha.run pos pins s σ H _ I h) fun us s1 ⟨vs, G, J, r, a, zs, ev, hq, q⟩ => ?_) hs rfl))⟩
  subst ev
  rw [Vals.ref1 r]
  obtain ⟨its, rv, p', hz⟩ := J.tuple hq
  have p2 : s1.heap.IsTuple a its.toArray := p'
  have z1 : (s1.heap.push (titO a)).objs.size = s1.heap.objs.size + 1 := Heap.size_push ..
  refine callType_new F.called_enumerate (by decide) (F.typeCall_enumerate_1 _) (F.newCall_enumerate_1 _) (fun o => F.args_object_init_2 o _) F.entry_enumerate_new (enumT_made a its.toArray) ⟨p2, ?_⟩
  show _ ∧ _
  rw [z1]
  have k1 : ∀ b o, s1.heap.get? b = some o → ((s1.heap.push (titO a)).push (enumO s1.heap.objs.size)).get? b = some o := fun b o x => Heap.get?_push_of_some _ (Heap.get?_push_of_some _ x)
  have ie : IsEnum ((s1.heap.push (titO a)).push (enumO s1.heap.objs.size)) (s1.heap.objs.size + 1) s1.heap.objs.size 0 .none := by
    have y := Heap.get?_push_size (s1.heap.push (titO a)) (o := enumO s1.heap.objs.size) rfl
    rw [z1] at y
    exact y
  have ti : ((s1.heap.push (titO a)).push (enumO s1.heap.objs.size)).IsTupleIter s1.heap.objs.size a 0 := ⟨_, Heap.get?_push_of_some _ (Heap.get?_push_size _ rfl), rfl, rfl⟩
  refine ⟨⟨_, ie, rfl⟩, wpAny_pyIter_enum ie ?_⟩
  refine ⟨s1.heap.objs.size + 1, [s1.heap.objs.size + 1, s1.heap.objs.size], _, _, G, rfl, J.kept (t' := s1.toks) k1, turn_enumT a _ _, ⟨⟨.none, ie⟩, ti, Nat.succ_ne_self _⟩, fun b hb => ?_, q⟩
  have lb : s1.heap.objs.size ≤ b := by
    have y : b = s1.heap.objs.size + 1 ∨ b = s1.heap.objs.size := by simpa using hb
    rcases y with y | y
    · rw [y]; exact Nat.le_succ _
    · rw [y]; exact Nat.le_refl _
  exact J.fpOk lb (J.hok.fresh lb)
end
end Sb

/-! P4: isinstance, methods of texts, what is walked, targets, comprehensions. -/
namespace Sb
open PySem PySem.Spec PyProof.Rows L2
theorem kit_lst (K : PySem.W.Frag) : ∀ d, PySem.W.kitOne K (.type (tyD d)) (.type "list") = some (match d with
    | .list _ => true
    | _ => false)
  | .none => kit_ty (by show kitB "NoneType" "list" = some false; decide +kernel)
  | .bool _ => kit_ty (by show kitB "bool" "list" = some false; decide +kernel)
  | .int _ => kit_ty (by show kitB "int" "list" = some false; decide +kernel)
  | .str _ => kit_ty (by show kitB "str" "list" = some false; decide +kernel)
  | .list _ => kit_ty (by show kitB "list" "list" = some true; decide +kernel)
  | .tuple _ => kit_ty (by show kitB "tuple" "list" = some false; decide +kernel)
  | .dict _ => kit_ty (by show kitB "dict" "list" = some false; decide +kernel)
def isLst (d : PyData) : Bool := match d with
  | .list _ => true
  | _ => false
section
variable {X : Cx} {e e2 e3 : Expr} {es : List Expr} {f g : FE} {fa : FA} {ft fu : FT}
def fIsi (kb : PyData → Bool) (f : FE) : FE := fun e n => match f e n with
  | none => none
  | some (a, n1) => match a.see with
    | none => none
    | some x => some (.d (.bool (kb x)), n1)
theorem e_isi {T : String} {kb : PyData → Bool} {p pos : Pos} (hk : ∀ d, PySem.W.kitOne X.K (.type (tyD d)) (.type T) = some (kb d)) (hg : Gl X "isinstance") (hm : X.mg "isinstance" = none) (ha : PA X [e, e2] (tCons (tE X.kw f) (tCons (tC (.ty T)) tNil)))
    (he : starEach [e, e2] X.env = (false, eval e X.env) :: starEach [e2] X.env := by rfl) (hpl : (backTo pos (starEach [e2] X.env)).any (·.1) = false := by rfl) : PE X (.Call (.Name "isinstance" p) [e, e2] [] pos) (tE X.kw (fIsi kb f)) :=
  (pe_callB call_isi hg hm (by decide +kernel) ha (by decide) (by decide) he hpl).by fun σ H Q ⟨st, n, H0, I, ev, w, E, sv, n', q, k⟩ => by
    unfold fIsi at q
    split at q
    · cases q
    · rename_i a n1 q1
      split at q
      · cases q
      · rename_i x q2
        cases q
        refine ⟨st, n, H0, I, ev, w, E, a, _, q1, fun v I1 H1 x1 r1 _ => ?_⟩
        have hd := (r1.see q2).dp x1.w.im
        exact ⟨v, .ty T, .type (tyD x), .type T, kb x, rfl, .ty _, dp_ty hd, hk x, k _ I1 H1 x1 (.bl _) trivial⟩
/-! ### methods -/
def tyS (T : String) (a : Sv) : Bool := match a.see with
  | some (.str _) => T == "str"
  | some (.list _) => T == "list"
  | _ => false
def fMt (T : String) (g : Sv → List Sv → Option Sv) (f : FE) (fa : FA) : FE := fun e n => match f e n with
  | none => none
  | some (a, n1) => if tyS T a = true then match fa e n1 with
      | none => none
      | some (as, n2) => match g a as with
        | none => none
        | some r => some (r, n2)
    else none
def MDo (K : KW) (r : V → List V → Hp → VK → Prop) (g : Sv → List Sv → Option Sv) : Prop := ∀ st n I H x a vs as sv (Q : VK), Wr st n I H → SvR K st I H x a → ArgsR K st I H vs as → g a as = some sv → (∀ v I' H', Xt st n I H I' H' → SvR K st I' H' v sv → Fr H v sv → Q v H') → r x vs H Q
theorem tyS_of {K : KW} {st n I H v a T} (w : Wr st n I H) (h : SvR K st I H v a) (e : tyS T a = true) : tyV K T v H := by
  unfold tyS at e
  split at e
  · rename_i z q
    rw [(h.see q).str]
    exact beq_iff_eq.mp e
  · rename_i z q
    obtain ⟨p, vs, e1, h1, _⟩ := (h.see q).lst w.im
    rw [e1]
    exact .inl ⟨beq_iff_eq.mp e, vs, h1⟩
  · cases e
theorem e_mt {T : String} {r : V → List V → Hp → VK → Prop} {gg : Sv → List Sv → Option Sv} (hd : MDo X.kw r gg) (h : PE X e (tBM X.K T r (tE X.kw f) (tAs X.kw fa))) : PE X e (tE X.kw (fMt T gg f fa)) :=
  h.by fun σ H Q ⟨st, n, H0, I, ev, w, E, sv, n', q, k⟩ => by
    unfold fMt at q
    split at q
    · cases q
    · rename_i a n1 q1
      split at q
      · rename_i ty
        split at q
        · cases q
        · rename_i as n2 q2
          split at q
          · cases q
          · rename_i rr q3
            cases q
            refine ⟨st, n, H0, I, ev, w, E, a, _, q1, fun x I1 H1 x1 r1 f1 => ⟨tyS_of x1.w r1 ty, st, n1, H0, I1, ev, x1.w, E.mono x1, as, _, q2, fun vs I2 H2 x2 r2 => ?_⟩⟩
            exact hd st _ I2 H2 x a vs as sv Q x2.w (r1.mono x2) r2 q3 fun v I3 H3 x3 r3 f3 => k v I3 H3 ((x1.trans x2).trans x3) r3 (Fr.back (x1.trans x2) r3 f3)
      · cases q
/-! join, count -/
def strsD : List PyData → Option (List Str)
  | [] => some []
  | .str b :: r => match strsD r with
    | some bs => some (b :: bs)
    | none => none
  | _ :: _ => none
theorem strsD_of : ∀ {xs : List PyData} {bs : List Str}, strsD xs = some bs → xs = bs.map PyData.str
  | [], bs, h => by cases h; rfl
  | x :: r, bs, h => by
    cases x with
    | str b =>
      unfold strsD at h
      cases q : strsD r with
      | none => simp only [q] at h; cases h
      | some cs => simp only [q] at h; cases h; rw [List.map_cons, strsD_of q]
    | _ => cases h
theorem strs_vs {K : KW} {I : Hp} : ∀ {bs : List Str} {vs : List V}, DpAll K I vs (bs.map PyData.str) → vs = bs.map V.str
  | [], _, h => by cases h; rfl
  | b :: bs, _, h => by
    cases h with
    | cons h1 h2 =>
      cases h1
      rw [strs_vs h2]
      rfl
def joinG (a : Sv) (as : List Sv) : Option Sv := match a, as with
  | .d (.str z), [b] => match b.see with
    | some (.list xs) => match strsD xs with
      | some ys => if (ys.map (·.length)).sum + ys.length * z.length ≤ big then some (.d (.str (Txt.join z ys))) else none
      | none => none
    | some (.tuple xs) => match strsD xs with
      | some ys => if (ys.map (·.length)).sum + ys.length * z.length ≤ big then some (.d (.str (Txt.join z ys))) else none
      | none => none
    | _ => none
  | _, _ => none
theorem md_join {K : KW} : MDo K (fun x xs H Q => ∃ a p, ∃ ys : List Str, x = .str a ∧ xs = [.ref p] ∧ (SqL K H p (ys.map V.str) ∨ SqT K H p (ys.map V.str)) ∧ (ys.map (·.length)).sum + ys.length * a.length ≤ 16777216 ∧ Q (.str (Txt.join a ys)) H) joinG := by
  intro st n I H x a vs as sv Q w ra rs e k
  unfold joinG at e
  split at e
  · rename_i z b
    cases rs with
    | cons h1 _ h3 =>
      cases h3
      cases ra
      split at e
      · rename_i xs q1
        split at e
        · rename_i ys q2
          split at e
          · rename_i hl
            cases e
            obtain ⟨p, us, e1, h4, h5⟩ := (h1.see q1).lst w.im
            rw [strsD_of q2] at h5
            exact ⟨z, p, ys, rfl, by rw [e1], .inl (by rw [← strs_vs h5]; exact h4), Nat.le_trans hl (by decide), k _ I H (.refl w) (.str _) trivial⟩
          · cases e
        · cases e
      · rename_i xs q1
        split at e
        · rename_i ys q2
          split at e
          · rename_i hl
            cases e
            obtain ⟨p, us, e1, h4, _, h5⟩ := (h1.see q1).tup w.im
            rw [strsD_of q2] at h5
            exact ⟨z, p, ys, rfl, by rw [e1], .inr (by rw [← strs_vs h5]; exact h4), Nat.le_trans hl (by decide), k _ I H (.refl w) (.str _) trivial⟩
          · cases e
        · cases e
      · cases e
  · cases e
def countG (a : Sv) (as : List Sv) : Option Sv := match a, as with
  | .d (.str z), [.d (.str y)] => some (.d (.int (Txt.count z y)))
  | _, _ => none
theorem md_count {K : KW} : MDo K (fun x xs H Q => ∃ a b, x = .str a ∧ xs = [.str b] ∧ Q (.int (Txt.count a b)) H) countG := by
  intro st n I H x a vs as sv Q w ra rs e k
  unfold countG at e
  split at e
  · cases e
    cases rs with
    | cons h1 _ h3 =>
      cases h3
      cases ra
      cases h1
      exact ⟨_, _, rfl, rfl, k _ I H (.refl w) (.int _) trivial⟩
  · cases e
/-! ### what is walked -/
abbrev FI := Ev → Nat → Option (List PyData × Nat)
def JR (K : KW) (st : Addr) (J : It) (xs : List PyData) (I : Hp) (P : Hp → Prop) : Prop := ∃ (G : Hp → Prop) (Y : Nat → Hp → V → Hp → Prop), Walk J xs.length G Y ∧ (∀ n1 I1 H1, Wr st n1 I1 H1 → Same I I1 → P H1 → G H1) ∧
  ∀ n1 I1 H1 i x H2, Wr st n1 I1 H1 → Same I I1 → P H1 → i < xs.length → Y i H1 x H2 → ∃ I2 d, xs[i]? = some d ∧ Xt st n1 I1 H1 I2 H2 ∧ Dp K I2 x d
theorem JR.imp {K : KW} {st J xs I P P'} (h : JR K st J xs I P) (k : ∀ H, P' H → P H) : JR K st J xs I P' := by
  obtain ⟨G, Y, w, g, y⟩ := h
  exact ⟨G, Y, w, fun n1 I1 H1 a b c => g n1 I1 H1 a b (k _ c), fun n1 I1 H1 i x H2 a b c => y n1 I1 H1 i x H2 a b (k _ c)⟩
/-- c: in a comprehension, where lists of one's own stand still -/
def Still (c : Bool) (st : Addr) (H' H1 : Hp) : Prop := c = true → ∀ b o, b ≠ st → H' b = some o → H1 b = some o
def tIs (K : KW) (c : Bool) (it : FI) : TI := fun σ H R => ∃ st n H0 I e, Wr st n I H ∧ Er K st H0 I H σ e ∧ ∃ xs n', it e n = some (xs, n') ∧ xs.length ≤ big ∧ ∀ J I' H', Xt st n' I H I' H' → JR K st J xs I' (Still c st H') → R J H'
theorem PI.or {tg it : Expr} {t u : TI} (h1 : PI X tg it t) (h2 : PI X tg it u) : PI X tg it (fun σ H R => t σ H R ∨ u σ H R) := ⟨fun pins s σ H R I q => by
  rcases q with q | q
  · exact h1.run pins s σ H R I q
  · exact h2.run pins s σ H R I q⟩
theorem jr_seq {K : KW} {st I vs xs} {P : Hp → Prop} {S : Hp → Prop} {J : It} (w : Walk J vs.length S (YAt vs)) (hd : DpAll K I vs xs) (hS : ∀ n1 I1 H1, Wr st n1 I1 H1 → Same I I1 → P H1 → S H1) : JR K st J xs I P := by
  refine ⟨S, YAt vs, by rw [← DpAll.len hd]; exact w, hS, fun n1 I1 H1 i x H2 w1 s1 p hi ⟨e, hx⟩ => ?_⟩
  subst e
  obtain ⟨d, e1, k1⟩ := DpAll.get hd hx
  exact ⟨I1, d, e1, .refl w1, Dp.mono s1 _ _ k1⟩
/-- a list, a tuple, a text: to keep -/
def itTake (f : FE) : FI := fun e n => match f e n with
  | some (.d (.list xs), n1) => some (xs, n1)
  | some (.cell xs, n1) => some (xs, n1)
  | some (.d (.tuple xs), n1) => some (xs, n1)
  | some (.d (.str z), n1) => some ((signs z).map PyData.str, n1)
  | _ => none
/-- .. to look at -/
def itSee (f : FE) : FI := fun e n => match f e n with
  | some (.bor xs, n1) => some (xs, n1)
  | some (.d (.list xs), n1) => some (xs, n1)
  | some (.cell xs, n1) => some (xs, n1)
  | some (.d (.tuple xs), n1) => some (xs, n1)
  | some (.d (.str z), n1) => some ((signs z).map PyData.str, n1)
  | _ => none
def iSeq (K : KW) (te : TE) : TI := fun σ H R => iList K te σ H R ∨ (iTup K te σ H R ∨ iStr te σ H R)
theorem pi_seq {tg : Expr} {te : TE} (h : PE X e te) : PI X tg e (iSeq X.kw te) := PI.or (pi_list h) (PI.or (pi_tup h) (pi_str h))
theorem jr_str {K : KW} {st I} {z : Str} {P : Hp → Prop} : JR K st (Its z) ((signs z).map PyData.str) I P := by
  have hl : ((signs z).map PyData.str).length = z.cps.size := by unfold signs; rw [List.length_map, List.length_map, Array.length_toList]
  refine ⟨fun _ => True, fun i H v H' => H' = H ∧ ∃ c, z.cps[i]? = some c ∧ v = .str ⟨#[c]⟩, by rw [hl]; exact walk_str, fun _ _ _ _ _ _ => trivial, fun n1 I1 H1 i x H2 w1 s1 p hi ⟨e, c, hc, hx⟩ => ?_⟩
  subst e hx
  refine ⟨I1, .str ⟨#[c]⟩, ?_, .refl w1, .str _⟩
  unfold signs
  rw [List.getElem?_map, List.getElem?_map, Array.getElem?_toList, hc]
  rfl
theorem i_for {tg : Expr} (h : PE X e (tE X.kw f)) : PI X tg e (tIs X.kw false (itTake f)) := (pi_seq h).by fun σ H R ⟨st, n, H0, I, ev, w, E, xs, n', q, hl, k⟩ => by
  unfold itTake at q
  split at q
  · rename_i ys n1 q1
    cases q
    refine .inl ⟨st, n, H0, I, ev, w, E, _, _, q1, fun v I1 H1 x1 r1 _ => ?_⟩
    cases r1 with
    | lst hs ha => exact ⟨_, rfl, ⟨_, x1.w.im.sub.seq hs⟩, k _ I1 H1 x1 (jr_seq walk_list ha fun n1 I2 H2 w2 s2 _ => w2.im.sub.seq (s2.seq hs))⟩
  · rename_i ys n1 q1
    cases q
    refine .inl ⟨st, n, H0, I, ev, w, E, _, _, q1, fun v I1 H1 x1 r1 f1 => ?_⟩
    obtain ⟨I2, x2, _, d2⟩ := SvR.keep (d := .list xs) x1 r1 f1 rfl
    cases d2 with
    | lst hs ha => exact ⟨_, rfl, ⟨_, x2.w.im.sub.seq hs⟩, k _ I2 H1 x2 (jr_seq walk_list ha fun n1 I2 H2 w2 s2 _ => w2.im.sub.seq (s2.seq hs))⟩
  · rename_i ys n1 q1
    cases q
    refine .inr (.inl ⟨st, n, H0, I, ev, w, E, _, _, q1, fun v I1 H1 x1 r1 _ => ?_⟩)
    cases r1 with
    | tup hs ha => exact ⟨_, rfl, ⟨_, ex_sqT x1.w.im.sub hs⟩, k _ I1 H1 x1 (jr_seq walk_tup ha fun n1 I2 H2 w2 s2 _ => ex_sqT w2.im.sub (ex_sqT s2 hs))⟩
  · rename_i z n1 q1
    cases q
    refine .inr (.inr ⟨st, n, H0, I, ev, w, E, _, _, q1, fun v I1 H1 x1 r1 _ => ?_⟩)
    cases r1
    exact ⟨z, rfl, k _ I1 H1 x1 jr_str⟩
  · cases q
theorem i_lc {tg : Expr} (h : PE X e (tE X.kw f)) : PI X tg e (tIs X.kw true (itSee f)) := (pi_seq h).by fun σ H R ⟨st, n, H0, I, ev, w, E, xs, n', q, hl, k⟩ => by
  unfold itSee at q
  split at q
  · rename_i ys n1 q1
    cases q
    refine .inl ⟨st, n, H0, I, ev, w, E, _, _, q1, fun v I1 H1 x1 r1 _ => ?_⟩
    obtain ⟨p, vs, e1, h1, h2, h3, h4⟩ := r1
    exact ⟨p, e1, ⟨vs, SqL.of h1⟩, k _ I1 H1 x1 (jr_seq walk_list h4 fun n1 I2 H2 w2 s2 st2 => SqL.of (st2 rfl p _ h3 h1))⟩
  · rename_i ys n1 q1
    cases q
    refine .inl ⟨st, n, H0, I, ev, w, E, _, _, q1, fun v I1 H1 x1 r1 _ => ?_⟩
    cases r1 with
    | lst hs ha => exact ⟨_, rfl, ⟨_, x1.w.im.sub.seq hs⟩, k _ I1 H1 x1 (jr_seq walk_list ha fun n1 I2 H2 w2 s2 _ => w2.im.sub.seq (s2.seq hs))⟩
  · rename_i ys n1 q1
    cases q
    refine .inl ⟨st, n, H0, I, ev, w, E, _, _, q1, fun v I1 H1 x1 r1 f1 => ?_⟩
    obtain ⟨p, vs, e1, h1, h2, h3, h4⟩ := r1
    exact ⟨p, e1, ⟨vs, SqL.of h1⟩, k _ I1 H1 x1 (jr_seq walk_list h4 fun n1 I2 H2 w2 s2 st2 => SqL.of (st2 rfl p _ h3 h1))⟩
  · rename_i ys n1 q1
    cases q
    refine .inr (.inl ⟨st, n, H0, I, ev, w, E, _, _, q1, fun v I1 H1 x1 r1 _ => ?_⟩)
    cases r1 with
    | tup hs ha => exact ⟨_, rfl, ⟨_, ex_sqT x1.w.im.sub hs⟩, k _ I1 H1 x1 (jr_seq walk_tup ha fun n1 I2 H2 w2 s2 _ => ex_sqT w2.im.sub (ex_sqT s2 hs))⟩
  · rename_i z n1 q1
    cases q
    refine .inr (.inr ⟨st, n, H0, I, ev, w, E, _, _, q1, fun v I1 H1 x1 r1 _ => ?_⟩)
    cases r1
    exact ⟨z, rfl, k _ I1 H1 x1 jr_str⟩
  · cases q
/-! range -/
def intsUp (lo : Int) (n : Nat) : List PyData := (List.range n).map fun (i : Nat) => .int (lo + (i : Int))
def smallI (i : Int) : Bool := decide (-(2 ^ 62) ≤ i) && decide (i < 2 ^ 62)
def itRng1 (fa : FA) : FI := fun e n => match fa e n with
  | some ([.d (.int j)], n1) => if smallI j = true then some (intsUp 0 j.toNat, n1) else none
  | _ => none
def itRng2 (fa : FA) : FI := fun e n => match fa e n with
  | some ([.d (.int i), .d (.int j)], n1) => if smallI i = true ∧ smallI j = true then some (intsUp i (j - i).toNat, n1) else none
  | _ => none
theorem jr_rng {K : KW} {st I lo n} {P : Hp → Prop} : JR K st (Itr lo n) (intsUp lo n) I P := by
  have hl : (intsUp lo n).length = n := by unfold intsUp; rw [List.length_map, List.length_range]
  refine ⟨fun _ => True, YFn fun i => .int (lo + i), by rw [hl]; exact walk_range, fun _ _ _ _ _ _ => trivial, fun n1 I1 H1 i x H2 w1 s1 p hi ⟨e, hx⟩ => ?_⟩
  subst e hx
  refine ⟨I1, _, ?_, .refl w1, .int _⟩
  rw [hl] at hi
  unfold intsUp
  rw [List.getElem?_map, List.getElem?_range hi]
  rfl
theorem small_of {i : Int} (h : smallI i = true) : -(2 ^ 62) ≤ i ∧ i < 2 ^ 62 := by
  unfold smallI at h
  simpa using h
theorem i_rng1 {c : Bool} {tg : Expr} (h : PI X tg e (iRng1 (tAs X.kw fa))) : PI X tg e (tIs X.kw c (itRng1 fa)) := h.by fun σ H R ⟨st, n, H0, I, ev, w, E, xs, n', q, hl, k⟩ => by
  unfold itRng1 at q
  split at q
  · rename_i j n1 q1
    split at q
    · rename_i hs
      cases q
      refine ⟨st, n, H0, I, ev, w, E, _, _, q1, fun vs I1 H1 x1 r1 => ?_⟩
      cases r1 with
      | cons h1 _ h2 =>
        cases h2
        cases h1
        exact ⟨j, rfl, (small_of hs).1, (small_of hs).2, k _ I1 H1 x1 jr_rng⟩
    · cases q
  · cases q
theorem i_rng2 {c : Bool} {tg : Expr} (h : PI X tg e (iRng2 (tAs X.kw fa))) : PI X tg e (tIs X.kw c (itRng2 fa)) := h.by fun σ H R ⟨st, n, H0, I, ev, w, E, xs, n', q, hl, k⟩ => by
  unfold itRng2 at q
  split at q
  · rename_i i j n1 q1
    split at q
    · rename_i hs
      cases q
      refine ⟨st, n, H0, I, ev, w, E, _, _, q1, fun vs I1 H1 x1 r1 => ?_⟩
      cases r1 with
      | cons h1 _ h2 =>
        cases h2 with
        | cons h3 _ h4 =>
          cases h4
          cases h1
          cases h3
          exact ⟨i, j, rfl, ⟨(small_of hs.1).1, (small_of hs.1).2, (small_of hs.2).1, (small_of hs.2).2⟩, k _ I1 H1 x1 jr_rng⟩
    · cases q
  · cases q
/-! enumerate, zip -/
def pairsD : Nat → List PyData → List PyData
  | _, [] => []
  | i, x :: xs => .tuple [.int (i : Int), x] :: pairsD (i + 1) xs
theorem pairsD_len : ∀ (xs : List PyData) (i : Nat), (pairsD i xs).length = xs.length
  | [], _ => rfl
  | x :: xs, i => by rw [pairsD, List.length_cons, List.length_cons, pairsD_len]
theorem pairsD_get : ∀ (xs : List PyData) (i j : Nat), (pairsD i xs)[j]? = (xs[j]?).map fun x => .tuple [.int ((i + j : Nat) : Int), x]
  | [], _, _ => by simp [pairsD]
  | x :: xs, i, 0 => by simp [pairsD]
  | x :: xs, i, j + 1 => by
    rw [pairsD, List.getElem?_cons_succ, List.getElem?_cons_succ, pairsD_get xs (i + 1) j]
    have : i + 1 + j = i + (j + 1) := by omega
    rw [this]
theorem dp_pair {K : KW} {st n I H T v w a b} (W : Wr st n I H) (hT : H T = none) (h1 : Dp K I v a) (h2 : Dp K I w b) : Xt st n I H (upd I T (.tup [v, w])) (upd H T (.tup [v, w])) ∧ Dp K (upd I T (.tup [v, w])) (.ref T) (.tuple [a, b]) :=
  dp_tupNew W (.cons h1 (.cons h2 .nil)) hT
theorem walk_enumT {K : PySem.W.Frag} {a : Addr} {xs : List V} : Walk (IteT K a) xs.length (fun H => SqT K H a xs) (YPair (fun i => some (.int (i : Nat))) (fun i => xs[i]?)) :=
  ⟨fun i _ hi q => ⟨xs, xs[i], q, by simp [hi]⟩, fun _ q => ⟨xs, q, rfl⟩, fun i H v H' _ q y => by
    obtain ⟨T, x, g1, g2, g3, g4⟩ := y
    exact ⟨T, .int (i : Nat), x, g1, g2, g3, rfl, g4 xs q⟩⟩
theorem jr_enum {K : KW} {st I vs xs} {P : Hp → Prop} {S : Hp → Prop} {J : It} (w : Walk J vs.length S (YPair (fun i => some (.int (i : Nat))) (fun i => vs[i]?))) (hd : DpAll K I vs xs) (hS : ∀ n1 I1 H1, Wr st n1 I1 H1 → Same I I1 → P H1 → S H1) : JR K st J (pairsD 0 xs) I P := by
  refine ⟨S, YPair (fun i => some (.int (i : Nat))) (fun i => vs[i]?), by rw [pairsD_len, ← DpAll.len hd]; exact w, hS, fun n1 I1 H1 i x H2 w1 s1 p hi ⟨T, a, b, e, hT, e2, ha, hb⟩ => ?_⟩
  subst e e2
  cases ha
  obtain ⟨d, e1, k1⟩ := DpAll.get hd hb
  obtain ⟨x2, k2⟩ := dp_pair w1 hT (.int (i : Nat)) (Dp.mono s1 _ _ k1)
  refine ⟨_, _, ?_, x2, k2⟩
  rw [pairsD_get, e1, Nat.zero_add]
  rfl
def itEnum (fa : FA) : FI := fun e n => match fa e n with
  | some ([.d (.list xs)], n1) => some (pairsD 0 xs, n1)
  | some ([.d (.tuple xs)], n1) => some (pairsD 0 xs, n1)
  | _ => none
theorem i_enum {c : Bool} {tg : Expr} (h1 : PI X tg e (iEnum X.K (tAs X.kw fa))) (h2 : PI X tg e (iEnumT X.K (tAs X.kw fa))) : PI X tg e (tIs X.kw c (itEnum fa)) := (PI.or h1 h2).by fun σ H R ⟨st, n, H0, I, ev, w, E, xs, n', q, hl, k⟩ => by
  unfold itEnum at q
  split at q
  · rename_i ys n1 q1
    cases q
    refine .inl ⟨st, n, H0, I, ev, w, E, _, _, q1, fun vs I1 H1 x1 r1 => ?_⟩
    cases r1 with
    | cons g1 _ g2 =>
      cases g2
      cases g1 with
      | lst hs ha => exact ⟨_, _, rfl, x1.w.im.sub.seq hs, k _ I1 H1 x1 (jr_enum walk_enum ha fun n1 I2 H2 w2 s2 _ => w2.im.sub.seq (s2.seq hs))⟩
  · rename_i ys n1 q1
    cases q
    refine .inr ⟨st, n, H0, I, ev, w, E, _, _, q1, fun vs I1 H1 x1 r1 => ?_⟩
    cases r1 with
    | cons g1 _ g2 =>
      cases g2
      cases g1 with
      | tup hs ha => exact ⟨_, _, rfl, ex_sqT x1.w.im.sub hs, k _ I1 H1 x1 (jr_enum walk_enumT ha fun n1 I2 H2 w2 s2 _ => ex_sqT w2.im.sub (ex_sqT s2 hs))⟩
  · cases q
/-! ### targets -/
abbrev FG := PyData → Ev → Option Ev
theorem wipe_in {σ : L2.St} {j : Nat} : ∀ {is : List Nat}, j ∈ is → (wipe σ is)[j]? = if j < σ.length then some none else none
  | [], h => by cases h
  | i :: is, h => by
    rw [wipe]
    by_cases e : i = j
    · subst e
      by_cases l : i < σ.length
      · rw [List.getElem?_set_self (by rw [wipe_length]; exact l), if_pos l]
      · rw [List.getElem?_eq_none (by rw [List.length_set, wipe_length]; omega), if_neg l]
    · rw [List.getElem?_set_ne e]
      rcases List.mem_cons.mp h with z | z
      · exact absurd z.symm e
      · exact wipe_in z
theorem wipe_wipe (σ : L2.St) (is : List Nat) : wipe (wipe σ is) is = wipe σ is := by
  apply List.ext_getElem?
  intro j
  by_cases h : j ∈ is
  · rw [wipe_in h, wipe_in h, wipe_length]
  · rw [wipe_get h]
theorem wipe_set {σ : L2.St} {is : List Nat} {i : Nat} {o : Option V} (h : i ∈ is) : wipe (σ.set i o) is = wipe σ is := by
  apply List.ext_getElem?
  intro j
  by_cases hj : j ∈ is
  · rw [wipe_in hj, wipe_in hj, List.length_set]
  · rw [wipe_get hj, wipe_get hj, List.getElem?_set_ne]
    intro e
    subst e
    exact hj h
/-- slots that a target leaves: data alone is new -/
def Kept (e e' : Ev) (σ σ' : L2.St) : Prop := ∀ (j : Nat) (sv : Sv), e'[j]? = some (some sv) → (∃ x, sv = .d x) ∨ (e[j]? = some (some sv) ∧ σ'[j]? = σ[j]?)
theorem Kept.refl {e : Ev} {σ : L2.St} : Kept e e σ σ := fun _ _ h => .inr ⟨h, rfl⟩
theorem Kept.trans {e e1 e2 : Ev} {σ σ1 σ2 : L2.St} (a : Kept e e1 σ σ1) (b : Kept e1 e2 σ1 σ2) : Kept e e2 σ σ2 := fun j sv h => by
  rcases b j sv h with x | ⟨x, y⟩
  · exact .inl x
  · rcases a j sv x with z | ⟨z, u⟩
    · exact .inl z
    · exact .inr ⟨z, y.trans u⟩
theorem Kept.set {e : Ev} {σ : L2.St} {i : Nat} {x : PyData} {v : V} : Kept e (e.set i (some (.d x))) σ (σ.set i (some v)) := fun j sv h => by
  by_cases q : i = j
  · subst q
    have hl : i < e.length := by
      have := (List.getElem?_eq_some_iff.mp h).1
      simpa using this
    rw [List.getElem?_set_self hl] at h
    cases h
    exact .inl ⟨_, rfl⟩
  · rw [List.getElem?_set_ne q] at h
    exact .inr ⟨h, List.getElem?_set_ne q⟩
theorem Er.redo {K : KW} {st H0 I1 H1 I2 H2 I' H' σ ev σ2 ev1 m} (E1 : Er K st H0 I1 H1 σ ev) (E4 : Er K st H0 I2 H2 σ2 ev1) (x : Xt st m I1 H1 I' H') (s : Same I2 I') (k : Kept ev ev1 σ σ2) : Er K st H0 I' H' σ2 ev1 :=
  ⟨E4.len, fun i sv q => by
    rcases k i sv q with ⟨y, e⟩ | ⟨h1, h2⟩
    · subst e
      obtain ⟨v, g1, g2, g3⟩ := E4.at_ i _ q
      exact ⟨v, g1, Dp.mono s _ _ g2, g3⟩
    · obtain ⟨v, g1, g2, g3⟩ := E1.at_ i sv h1
      exact ⟨v, h2.trans g1, SvR.mono x g2, g3⟩, E4.ap⟩
def GDo (K : KW) (g : TG) (tg : FG) (sl : List Nat) : Prop := ∀ st H0 n I H σ e v x e' (Q : L2.St → Hp → Prop), Wr st n I H → Er K st H0 I H σ e → Dp K I v x → tg x e = some e' →
  (∀ σ', Er K st H0 I H σ' e' → (∀ own : List Nat, (∀ i ∈ sl, i ∈ own) → wipe σ' own = wipe σ own) → Kept e e' σ σ' → Q σ' H) → g v σ H Q
def tgN (i : Nat) : FG := fun x e => some (e.set i (some (.d x)))
theorem gd_name {K : KW} {i : Nat} : GDo K (gName i) (tgN i) [i] := by
  intro st H0 n I H σ e v x e' Q w E hd q k
  cases q
  exact k _ (E.setD i hd) (fun own h => wipe_set (h i List.mem_cons_self)) .set
def tgs : List FG → List PyData → Ev → Option Ev
  | [], [], e => some e
  | t :: ts, x :: xs, e => match t x e with
    | none => none
    | some e1 => tgs ts xs e1
  | _, _, _ => none
def tgT (ts : List FG) : FG := fun x e => match x with
  | .tuple xs => tgs ts xs e
  | _ => none
theorem tgs_len : ∀ {ts : List FG} {xs : List PyData} {e e' : Ev}, tgs ts xs e = some e' → xs.length = ts.length
  | [], [], _, _, _ => rfl
  | [], _ :: _, _, _, h => by cases h
  | _ :: _, [], _, _, h => by cases h
  | t :: ts, x :: xs, e, e', h => by
    unfold tgs at h
    split at h
    · cases h
    · rw [List.length_cons, List.length_cons, tgs_len h]
def GDs (K : KW) (g : TGs) (ts : List FG) (sl : List Nat) : Prop := ∀ st H0 n I H σ e vs xs e' (Q : L2.St → Hp → Prop), Wr st n I H → Er K st H0 I H σ e → DpAll K I vs xs → tgs ts xs e = some e' →
  (∀ σ', Er K st H0 I H σ' e' → (∀ own : List Nat, (∀ i ∈ sl, i ∈ own) → wipe σ' own = wipe σ own) → Kept e e' σ σ' → Q σ' H) → g vs σ H Q
theorem gds_nil {K : KW} : GDs K gNil [] [] := by
  intro st H0 n I H σ e vs xs e' Q w E hd q k
  cases hd with
  | nil => cases q; exact ⟨rfl, k σ E (fun _ _ => rfl) .refl⟩
  | cons _ _ => cases q
theorem gds_cons {K : KW} {g : TG} {gs : TGs} {t : FG} {ts : List FG} {s1 s2 : List Nat} (h1 : GDo K g t s1) (h2 : GDs K gs ts s2) : GDs K (gCons g gs) (t :: ts) (s1 ++ s2) := by
  intro st H0 n I H σ e vs xs e' Q w E hd q k
  cases hd with
  | nil => cases q
  | cons d1 d2 =>
    rename_i v vs x xs
    unfold tgs at q
    split at q
    · cases q
    · rename_i e1 q1
      refine ⟨v, vs, rfl, h1 st H0 n I H σ e v x e1 _ w E d1 q1 fun σ1 E1 k1 r1 => h2 st H0 n I H σ1 e1 vs xs e' Q w E1 d2 q fun σ2 E2 k2 r2 => k σ2 E2 (fun own ho => ?_) (r1.trans r2)⟩
      rw [k2 own fun i hi => ho i (List.mem_append_right _ hi), k1 own fun i hi => ho i (List.mem_append_left _ hi)]
theorem gd_tup {K : KW} {gs : TGs} {ts : List FG} {sl : List Nat} {m : Nat} (h : GDs K gs ts sl) (hm : ts.length = m) : GDo K (gTup K m gs) (tgT ts) sl := by
  intro st H0 n I H σ e v x e' Q w E hd q k
  unfold tgT at q
  split at q
  · cases hd with
    | tup hs ha =>
      exact ⟨_, _, rfl, ex_sqT w.im.sub hs, by rw [DpAll.len ha, tgs_len q, hm], h st H0 n I H σ e _ _ e' Q w E ha q k⟩
  · cases q
/-! ### comprehensions -/
def tT : FT := fun _ n => some (true, n)
def lcL (tg : FG) (own : List Nat) (t : FT) (f : FE) : List PyData → Ev → Nat → Option (List PyData × Nat)
  | [], _, n => some ([], n)
  | x :: xs, e, n => match tg x (wipeE e own) with
    | none => none
    | some e1 => match t e1 n with
      | none => none
      | some (false, n1) => lcL tg own t f xs e n1
      | some (true, n1) => match f e1 n1 with
        | none => none
        | some (sv, n2) => match sv.take with
          | none => none
          | some y => match lcL tg own t f xs e n2 with
            | none => none
            | some (ys, n3) => some (y :: ys, n3)
def fLc (it : FI) (tg : FG) (own : List Nat) (t : FT) (f : FE) : FE := fun e n => match it e n with
  | none => none
  | some (xs, n1) => if xs.length ≤ big then match lcL tg own t f xs e n1 with
      | none => none
      | some (ys, n2) => some (.cell ys, n2)
    else none
theorem pts_yes {X : Cx} : PTs X [] (tTs X.kw tT) := pts_nil.by fun σ H Q ⟨st, n, H0, I, ev, w, E, b, n', q, k⟩ => by
  cases q
  exact k I H (.refl w)
theorem lc_of {K : KW} {g : TG} {tg : FG} {sl own : List Nat} {it : FI} {t : FT} {f : FE} (hg : GDo K g tg sl) (ho : ∀ i ∈ sl, i ∈ own) (σ : L2.St) (H : Hp) (Q : VK) (h : tE K (fLc it tg own t f) σ H Q) : tLc (tIs K true it) g (tTs K t) (tE K f) own σ H Q := by
  obtain ⟨st, n, H0, I, ev, w, E, sv, n', q, k⟩ := h
  unfold fLc at q
  split at q
  · cases q
  · rename_i xs n1 q1
    split at q
    · rename_i hlen
      split at q
      · cases q
      · rename_i ys n2 q2
        cases q
        refine ⟨st, n, H0, I, ev, w, E, xs, n1, q1, hlen, fun J I1 H1 x1 ⟨G, Y, wk, hG, hY⟩ D hD => ?_⟩
        have hs : D ≠ st := x1.w.ne_st hD
        have iD : I1 D = none := x1.w.ine hD
        have E1 := E.mono x1
        refine lc_it wk (fun i H => ∃ I' m acc zs rs, Xt st m I1 H1 I' H ∧ I' D = none ∧ H D = some (.lst acc) ∧ DpAll K I' acc zs ∧ zs.length ≤ i ∧ lcL tg own t f (xs.drop i) ev m = some (rs, n') ∧ zs ++ rs = ys)
          ⟨I1, n1, [], [], ys, Xt.cell x1.w hD, iD, upd_same, .nil, Nat.zero_le _, q2, rfl⟩ ?_ ?_ ?_
        · rintro i H' hi ⟨I', m, acc, zs, rs, x2, i2, hacc, hd, hl, _, _⟩
          exact hG m I' H' x2.w x2.ii fun _ b o hb e => x2.hh b o hb e
        · rintro i x H' H'' hi ⟨I', m, acc, zs, rs, x2, i2, hacc, hd, hl, q3, q4⟩ y
          obtain ⟨I2, d, e1, x3, kd⟩ := hY m I' H' i x H'' x2.w x2.ii (fun _ b o hb e => x2.hh b o hb e) hi y
          have hdr : xs.drop i = d :: xs.drop (i + 1) := by
            rw [List.drop_eq_getElem_cons hi]
            congr 1
            rw [List.getElem?_eq_getElem hi] at e1
            exact Option.some.inj e1
          rw [hdr] at q3
          unfold lcL at q3
          split at q3
          · cases q3
          · rename_i ev1 p1
            have x23 := x2.trans x3
            have E3 := (E1.mono x23).wipe own
            refine hg st H0 m I2 H'' (wipe σ own) _ x d ev1 _ x3.w E3 kd p1 fun σ2 E4 kw _ => ⟨by rw [kw own ho, wipe_wipe], ?_⟩
            have hacc2 : H'' D = some (.lst acc) := x3.hh D _ hs hacc
            have i3 : I2 D = none := by rw [x3.old D _ hacc]; exact i2
            split at q3
            · cases q3
            · rename_i m1 p2
              refine ⟨st, m, H0, I2, ev1, x3.w, E4, false, m1, p2, fun I4 H4 x4 => ?_⟩
              dsimp only
              rw [if_neg Bool.false_ne_true]
              exact ⟨I4, m1, acc, zs, rs, x23.trans x4, by rw [x4.old D _ hacc2]; exact i3, x4.hh D _ hs hacc2, DpAll.mono (x3.trans x4).ii _ _ hd, Nat.le_succ_of_le hl, q3, q4⟩
            · rename_i m1 p2
              refine ⟨st, m, H0, I2, ev1, x3.w, E4, true, m1, p2, fun I4 H4 x4 => ?_⟩
              dsimp only
              rw [if_pos rfl]
              split at q3
              · cases q3
              · rename_i sv m2 p3
                split at q3
                · cases q3
                · rename_i y' p4
                  split at q3
                  · cases q3
                  · rename_i us m3 p5
                    cases q3
                    refine ⟨st, m1, H0, I4, ev1, x4.w, E4.mono x4, sv, m2, p3, fun v I5 H5 x5 r5 f5 => ?_⟩
                    obtain ⟨I6, x6, s6, k6⟩ := SvR.keep x5 r5 f5 p4
                    have hacc4 : H4 D = some (.lst acc) := x4.hh D _ hs hacc2
                    have hacc5 : H5 D = some (.lst acc) := x6.hh D _ hs hacc4
                    have i4 : I4 D = none := by rw [x4.old D _ hacc2]; exact i3
                    have i6 : I6 D = none := by rw [x6.old D _ hacc4]; exact i4
                    have xx := (x23.trans x4).trans x6
                    have la : acc.length < sizeLine := by
                      rw [DpAll.len hd]
                      have : big < sizeLine := by decide
                      omega
                    refine ⟨acc, hacc5, la, I6, m2, acc ++ [v], zs ++ [y'], us, xx.put hD i6 hs, i6, upd_same, DpAll.app (DpAll.mono ((x3.trans x4).trans x6).ii _ _ hd) (.cons k6 .nil), ?_, p5, ?_⟩
                    · rw [List.length_append, List.length_singleton]
                      omega
                    · rw [List.append_assoc]
                      exact q4
        · rintro H' ⟨I', m, acc, zs, rs, x2, i2, hacc, hd, hl, q3, q4⟩
          rw [List.drop_length] at q3
          unfold lcL at q3
          cases q3
          rw [List.append_nil] at q4
          subst q4
          exact k (.ref D) I' H' (x1.trans x2) ⟨D, acc, rfl, hacc, i2, hs, hd⟩ fun p ep => by rw [← V.ref.inj ep]; exact x1.free hD hs
    · cases q
section
variable {X : Cx} {e : Expr}
theorem e_lc {g : TG} {tg : FG} {sl own : List Nat} {it : FI} {t : FT} {f : FE} (hg : GDo X.kw g tg sl) (ho : ∀ i ∈ sl, i ∈ own) (h : PE X e (tLc (tIs X.kw true it) g (tTs X.kw t) (tE X.kw f) own)) : PE X e (tE X.kw (fLc it tg own t f)) := h.by fun σ H Q q => lc_of hg ho σ H Q q
end
end
end Sb

/-! P4b: comprehensions of two clauses. -/
namespace Sb
open PySem PySem.Spec PyProof.Rows L2
def lcLL (tg : FG) (own : List Nat) (t : FT) (it1 : FI) (tg1 : FG) (vs1 : List Nat) (t1 : FT) (f : FE) : List PyData → Ev → Nat → Option (List PyData × Nat)
  | [], _, n => some ([], n)
  | x :: xs, e, n => match tg x (wipeE e own) with
    | none => none
    | some e1 => match t e1 n with
      | none => none
      | some (false, n1) => lcLL tg own t it1 tg1 vs1 t1 f xs e n1
      | some (true, n1) => match it1 e1 n1 with
        | none => none
        | some (zs, n2) => if zs.length ≤ big then match lcL tg1 vs1 t1 f zs e1 n2 with
            | none => none
            | some (us, n3) => match lcLL tg own t it1 tg1 vs1 t1 f xs e n3 with
              | none => none
              | some (ys, n4) => some (us ++ ys, n4)
          else none
def fLc2 (it : FI) (tg : FG) (own : List Nat) (t : FT) (it1 : FI) (tg1 : FG) (vs1 : List Nat) (t1 : FT) (f : FE) : FE := fun e n => match it e n with
  | none => none
  | some (xs, n1) => if xs.length ≤ big then match lcLL tg own t it1 tg1 vs1 t1 f xs e n1 with
      | none => none
      | some (ys, n2) => if ys.length ≤ big then some (.cell ys, n2) else none
    else none
/-- the inner loop, by a walk: Pv by the turn and the heap -/
theorem in_it {J : It} {n : Nat} {G : Hp → Prop} {Y : Nat → Hp → V → Hp → Prop} (wk : Walk J n G Y) {Nx : Hp → Prop} {B : V → Hp → (Hp → Prop) → Prop} {H4 : Hp} (Pv : Nat → Hp → Prop) (h0 : Pv 0 H4) (hG : ∀ j H, j ≤ n → Pv j H → G H)
    (hs : ∀ j x H H', j < n → Pv j H → Y j H x H' → B x H' (Pv (j + 1))) (hd : ∀ H, Pv n H → Nx H) :
    ∃ W1 : Nat → Nat → Hp → Prop, (∃ m, W1 0 m H4) ∧ ∀ j k H, W1 j k H → (J.stop j H ∧ Nx H) ∨ (J.go j H ∧ ∃ Nx1 : Hp → Prop, (∀ H', Nx1 H' → ∃ k', k' < k ∧ W1 (j + 1) k' H') ∧ ∀ x H', J.yld j H x H' → B x H' Nx1) := by
  refine ⟨fun j k H => k = n - j ∧ j ≤ n ∧ Pv j H, ⟨n, rfl, Nat.zero_le _, h0⟩, fun j k H ⟨ek, hj, p⟩ => ?_⟩
  rcases Nat.lt_or_ge j n with l | l
  · exact .inr ⟨wk.goes j H l (hG j H hj p), Pv (j + 1), fun H' p' => ⟨n - (j + 1), by omega, rfl, l, p'⟩, fun x H' y => hs j x H H' l p (wk.yields j H x H' l (hG j H hj p) y)⟩
  · have ej : j = n := Nat.le_antisymm hj l
    rw [ej] at p ⊢
    exact .inl ⟨wk.stops H (hG n H (Nat.le_refl _) p), hd H p⟩
theorem lc2_of {K : KW} {g g1 : TG} {tg tg1 : FG} {sl sl1 own vs1 : List Nat} {it it1 : FI} {t t1 : FT} {f : FE} (hg : GDo K g tg sl) (ho : ∀ i ∈ sl, i ∈ own) (hg1 : GDo K g1 tg1 sl1) (ho1 : ∀ i ∈ sl1, i ∈ vs1) (σ : L2.St) (H : Hp) (Q : VK) (h : tE K (fLc2 it tg own t it1 tg1 vs1 t1 f) σ H Q) :
    tLc2 (tIs K true it) g (tTs K t) (tIs K false it1) g1 (tTs K t1) (tE K f) own vs1 σ H Q := by
  obtain ⟨st, n, H0, I, ev, w, E, sv, n', q, k⟩ := h
  unfold fLc2 at q
  split at q
  · cases q
  · rename_i xs n1 q1
    split at q
    · rename_i hlen
      split at q
      · cases q
      · rename_i ys n2 q2
        split at q
        · rename_i hlen2
          cases q
          refine ⟨st, n, H0, I, ev, w, E, xs, n1, q1, hlen, fun J I1 H1 x1 ⟨G, Y, wk, hG, hY⟩ D hD => ?_⟩
          have hs : D ≠ st := x1.w.ne_st hD
          have iD : I1 D = none := x1.w.ine hD
          have E1 := E.mono x1
          have bs : big < sizeLine := by decide
          refine in_it wk (fun i H => ∃ I' m acc zs rs, Xt st m I1 H1 I' H ∧ I' D = none ∧ H D = some (.lst acc) ∧ DpAll K I' acc zs ∧ lcLL tg own t it1 tg1 vs1 t1 f (xs.drop i) ev m = some (rs, n') ∧ zs ++ rs = ys)
            ⟨I1, n1, [], [], ys, Xt.cell x1.w hD, iD, upd_same, .nil, q2, rfl⟩ ?_ ?_ ?_
          · rintro i H' hi ⟨I', m, acc, zs, rs, x2, i2, hacc, hd, _, _⟩
            exact hG m I' H' x2.w x2.ii fun _ b o hb e => x2.hh b o hb e
          · rintro i x H' H'' hi ⟨I', m, acc, zs, rs, x2, i2, hacc, hd, q3, q4⟩ y
            obtain ⟨I2, d, e1, x3, kd⟩ := hY m I' H' i x H'' x2.w x2.ii (fun _ b o hb e => x2.hh b o hb e) hi y
            have hdr : xs.drop i = d :: xs.drop (i + 1) := by
              rw [List.drop_eq_getElem_cons hi]
              congr 1
              rw [List.getElem?_eq_getElem hi] at e1
              exact Option.some.inj e1
            rw [hdr] at q3
            unfold lcLL at q3
            split at q3
            · cases q3
            · rename_i ev1 p1
              have x23 := x2.trans x3
              have E3 := (E1.mono x23).wipe own
              refine hg st H0 m I2 H'' (wipe σ own) _ x d ev1 _ x3.w E3 kd p1 fun σ2 E4 kw kp => ⟨by rw [kw own ho, wipe_wipe], ?_⟩
              have hacc2 : H'' D = some (.lst acc) := x3.hh D _ hs hacc
              have i3 : I2 D = none := by rw [x3.old D _ hacc]; exact i2
              split at q3
              · cases q3
              · rename_i m1 p2
                refine ⟨st, m, H0, I2, ev1, x3.w, E4, false, m1, p2, fun I4 H4 x4 => ?_⟩
                dsimp only
                rw [if_neg Bool.false_ne_true]
                exact ⟨I4, m1, acc, zs, rs, x23.trans x4, by rw [x4.old D _ hacc2]; exact i3, x4.hh D _ hs hacc2, DpAll.mono (x3.trans x4).ii _ _ hd, q3, q4⟩
              · rename_i m1 p2
                refine ⟨st, m, H0, I2, ev1, x3.w, E4, true, m1, p2, fun I4 H4 x4 => ?_⟩
                dsimp only
                rw [if_pos rfl]
                have hacc4 : H4 D = some (.lst acc) := x4.hh D _ hs hacc2
                have i4 : I4 D = none := by rw [x4.old D _ hacc2]; exact i3
                split at q3
                · cases q3
                · rename_i vs m2 p3
                  split at q3
                  · rename_i hl1
                    split at q3
                    · cases q3
                    · rename_i us m3 p4
                      split at q3
                      · cases q3
                      · rename_i ys' m4 p5
                        cases q3
                        refine ⟨st, m1, H0, I4, ev1, x4.w, E4.mono x4, vs, m2, p3, hl1, fun J1 I5 H5 x5 ⟨G1, Y1, wk1, hG1, hY1⟩ => ?_⟩
                        have hacc5 : H5 D = some (.lst acc) := x5.hh D _ hs hacc4
                        have i5 : I5 D = none := by rw [x5.old D _ hacc4]; exact i4
                        have x15 := (x23.trans x4).trans x5
                        have E5 := (E4.mono x4).mono x5
                        have hd5 : DpAll K I5 acc zs := DpAll.mono ((x3.trans x4).trans x5).ii _ _ hd
                        refine in_it wk1 (fun j H => ∃ I' m acc' us' rs', Xt st m I1 H1 I' H ∧ Same I5 I' ∧ I' D = none ∧ H D = some (.lst acc') ∧ DpAll K I' acc' (zs ++ us') ∧ lcL tg1 vs1 t1 f (vs.drop j) ev1 m = some (rs', m3) ∧ us' ++ rs' = us)
                          ⟨I5, m2, acc, [], us, x15, Same.refl _, i5, hacc5, by rw [List.append_nil]; exact hd5, p4, rfl⟩ ?_ ?_ ?_
                        · rintro j H _ ⟨I6, m6, acc6, us6, rs6, x6, s6, i6, a6, d6, q6, r6⟩
                          exact hG1 m6 I6 H x6.w s6 (fun z => nomatch z)
                        · rintro j x' H H2 hj ⟨I6, m6, acc6, us6, rs6, x6, s6, i6, a6, d6, q6, r6⟩ y6
                          obtain ⟨I7, d', e7, x7, k7⟩ := hY1 m6 I6 H j x' H2 x6.w s6 (fun z => nomatch z) hj y6
                          have hdr2 : vs.drop j = d' :: vs.drop (j + 1) := by
                            rw [List.drop_eq_getElem_cons hj]
                            congr 1
                            rw [List.getElem?_eq_getElem hj] at e7
                            exact Option.some.inj e7
                          rw [hdr2] at q6
                          unfold lcL at q6
                          split at q6
                          · cases q6
                          · rename_i ev2 p6
                            have x67 := x6.trans x7
                            have s57 : Same I5 I7 := s6.trans x7.ii
                            have E7 : Er K st H0 I7 H2 σ2 ev1 := Er.redo (E1.wipe own) E4 x67 (((x4.trans x5).ii).trans s57) kp
                            have a7 : H2 D = some (.lst acc6) := x7.hh D _ hs a6
                            have i7 : I7 D = none := by rw [x7.old D _ a6]; exact i6
                            have d7 : DpAll K I7 acc6 (zs ++ us6) := DpAll.mono x7.ii _ _ d6
                            refine hg1 st H0 m6 I7 H2 (wipe σ2 vs1) _ x' d' ev2 _ x7.w (E7.wipe vs1) k7 p6 fun σ3 E8 kw8 _ => ⟨by rw [kw8 vs1 ho1, wipe_wipe], ?_⟩
                            have room : acc6.length < sizeLine := by
                              have l1 : acc6.length = zs.length + us6.length := by rw [DpAll.len d6, List.length_append]
                              have l2 : ys.length = zs.length + (us.length + ys'.length) := by rw [← q4, List.length_append, List.length_append]
                              have l3 : us.length = us6.length + rs6.length := by rw [← r6, List.length_append]
                              omega
                            split at q6
                            · cases q6
                            · rename_i m7 p7
                              refine ⟨st, m6, H0, I7, ev2, x7.w, E8, false, m7, p7, fun I8 H8 x8 => ?_⟩
                              dsimp only
                              rw [if_neg Bool.false_ne_true]
                              exact ⟨I8, m7, acc6, us6, rs6, x67.trans x8, s57.trans x8.ii, by rw [x8.old D _ a7]; exact i7, x8.hh D _ hs a7, DpAll.mono x8.ii _ _ d7, q6, r6⟩
                            · rename_i m7 p7
                              refine ⟨st, m6, H0, I7, ev2, x7.w, E8, true, m7, p7, fun I8 H8 x8 => ?_⟩
                              dsimp only
                              rw [if_pos rfl]
                              split at q6
                              · cases q6
                              · rename_i sv m8 p8
                                split at q6
                                · cases q6
                                · rename_i y' p9
                                  split at q6
                                  · cases q6
                                  · rename_i ws m9 p10
                                    cases q6
                                    refine ⟨st, m7, H0, I8, ev2, x8.w, E8.mono x8, sv, m8, p8, fun v I9 H9 x9 r9 f9 => ?_⟩
                                    obtain ⟨I10, x10, s10, k10⟩ := SvR.keep x9 r9 f9 p9
                                    have a8 : H8 D = some (.lst acc6) := x8.hh D _ hs a7
                                    have i8 : I8 D = none := by rw [x8.old D _ a7]; exact i7
                                    have a9 : H9 D = some (.lst acc6) := x10.hh D _ hs a8
                                    have i10 : I10 D = none := by rw [x10.old D _ a8]; exact i8
                                    have xx := (x67.trans x8).trans x10
                                    refine ⟨acc6, a9, room, I10, m8, acc6 ++ [v], us6 ++ [y'], ws, xx.put hD i10 hs, (s57.trans x8.ii).trans x10.ii, i10, upd_same, ?_, p10, ?_⟩
                                    · rw [← List.append_assoc]
                                      exact DpAll.app (DpAll.mono (x8.ii.trans x10.ii) _ _ d7) (.cons k10 .nil)
                                    · rw [List.append_assoc]
                                      exact r6
                        · rintro H ⟨I6, m6, acc6, us6, rs6, x6, s6, i6, a6, d6, q6, r6⟩
                          rw [List.drop_length] at q6
                          unfold lcL at q6
                          cases q6
                          rw [List.append_nil] at r6
                          subst r6
                          exact ⟨I6, m3, acc6, zs ++ us6, ys', x6, i6, a6, d6, p5, by rw [List.append_assoc]; exact q4⟩
                  · cases q3
          · rintro H' ⟨I', m, acc, zs, rs, x2, i2, hacc, hd, q3, q4⟩
            rw [List.drop_length] at q3
            unfold lcLL at q3
            cases q3
            rw [List.append_nil] at q4
            subst q4
            exact k (.ref D) I' H' (x1.trans x2) ⟨D, acc, rfl, hacc, i2, hs, hd⟩ fun p ep => by rw [← V.ref.inj ep]; exact x1.free hD hs
        · cases q
    · cases q
section
variable {X : Cx} {e : Expr}
theorem e_lc2 {g g1 : TG} {tg tg1 : FG} {sl sl1 own vs1 : List Nat} {it it1 : FI} {t t1 : FT} {f : FE} (hg : GDo X.kw g tg sl) (ho : ∀ i ∈ sl, i ∈ own) (hg1 : GDo X.kw g1 tg1 sl1) (ho1 : ∀ i ∈ sl1, i ∈ vs1)
    (h : PE X e (tLc2 (tIs X.kw true it) g (tTs X.kw t) (tIs X.kw false it1) g1 (tTs X.kw t1) (tE X.kw f) own vs1)) : PE X e (tE X.kw (fLc2 it tg own t it1 tg1 vs1 t1 f)) := h.by fun σ H Q q => lc2_of hg ho hg1 ho1 σ H Q q
end
end Sb

/-! P5: statements, defs. -/
namespace Sb
open PySem PySem.Spec PyProof.Rows L2
section
variable {X : Cx} {s : Stmt} {ss : List Stmt} {e : Expr} {f g : FE} {fa : FA} {ft : FT} {a b : FS} {K : KW}
def sNx : FS := fun e n => some (.nx, e, n)
def sSeq (a b : FS) : FS := fun e n => match a e n with
  | some (.nx, e1, n1) => b e1 n1
  | r => r
theorem tSs_next {K : KW} : ∀ D σ H, tSs K sNx D σ H → tNext D σ H := fun D σ H ⟨st, n, I0, H0, I, e, x, E, fl, e', n', q, k⟩ => by
  cases q
  exact k σ I H x E (Same.refl _)
theorem b_nil : PSs X [] (tSs X.kw sNx) := pss_nil.by tSs_next
theorem b_cons (h1 : PS X s (tSs X.kw a)) (h2 : PSs X ss (tSs X.kw b)) : PSs X (s :: ss) (tSs X.kw (sSeq a b)) := (pss_cons h1 h2).by fun D σ H ⟨st, n, I0, H0, I, e, x, E, fl, e', n', q, k⟩ => by
  unfold sSeq at q
  split at q
  · rename_i e1 n1 q1
    exact ⟨st, n, I0, H0, I, e, x, E, .nx, e1, n1, q1, fun σ1 I1 H1 x1 E1 s1 => ⟨st, n1, I0, H0, I1, e1, x1, E1, fl, e', n', q, Fin.up s1 k⟩⟩
  · rename_i hne
    refine ⟨st, n, I0, H0, I, e, x, E, fl, e', n', q, ?_⟩
    cases fl with
    | nx => exact absurd q (hne e' n')
    | rt v => exact k
    | bk => exact k
    | ct => exact k
theorem b_one (h1 : PS X s (tSs X.kw a)) : PSs X [s] (tSs X.kw a) := pss_one h1
/-! name = e -/
theorem Sv.own_nb {sv : Sv} (h : sv.own = true) : sv.own = true := h
def sAsg (i : Nat) (f : FE) : FS := fun e n => match f e n with
  | none => none
  | some (sv, n1) => if sv.own = true then some (.nx, e.set i (some sv), n1) else none
theorem s_set {i : Nat} (h : PS X s (tAsg (tE X.kw f) (gName i))) : PS X s (tSs X.kw (sAsg i f)) := h.by fun D σ H ⟨st, n, I0, H0, I, e, x, E, fl, e', n', q, k⟩ => by
  unfold sAsg at q
  split at q
  · cases q
  · rename_i sv n1 q1
    split at q
    · rename_i ho
      cases q
      refine ⟨st, n, H0, I, e, x.w, E, sv, _, q1, fun v I1 H1 x1 r1 f1 => ?_⟩
      exact k _ I1 H1 (x.trans x1) (E.setNew x1 x i r1 f1 (Sv.own_nb ho)) x1.ii
    · cases q
/-- a target of several names = e -/
def sAsgT (tg : FG) (f : FE) : FS := fun e n => match f e n with
  | none => none
  | some (sv, n1) => match sv.take with
    | none => none
    | some x => match tg x e with
      | none => none
      | some e1 => some (.nx, e1, n1)
theorem s_setT {g : TG} {tg : FG} {sl : List Nat} (hg : GDo X.kw g tg sl) (h : PS X s (tAsg (tE X.kw f) g)) : PS X s (tSs X.kw (sAsgT tg f)) := h.by fun D σ H ⟨st, n, I0, H0, I, e, x, E, fl, e', n', q, k⟩ => by
  unfold sAsgT at q
  split at q
  · cases q
  · rename_i sv n1 q1
    split at q
    · cases q
    · rename_i y q2
      split at q
      · cases q
      · rename_i e1 q3
        cases q
        refine ⟨st, n, H0, I, e, x.w, E, sv, _, q1, fun v I1 H1 x1 r1 f1 => ?_⟩
        obtain ⟨I2, x2, _, k2⟩ := SvR.keep x1 r1 f1 q2
        exact hg st H0 _ I2 H1 σ e v y _ _ x2.w (E.mono x2) k2 q3 fun σ' E' _ _ => k σ' I2 H1 (x.trans x2) E' x2.ii
/-- a, b = e1, e2 -/
def sPar (i j : Nat) (f g : FE) : FS := fun e n => match f e n with
  | none => none
  | some (a, n1) => match g e n1 with
    | none => none
    | some (b, n2) => if a.own = true ∧ b.own = true then some (.nx, (e.set i (some a)).set j (some b), n2) else none
theorem s_par2 {i j : Nat} (h : PS X s (tPar i j (tCons (tE X.kw f) (tCons (tE X.kw g) tNil)))) : PS X s (tSs X.kw (sPar i j f g)) := h.by fun D σ H ⟨st, n, I0, H0, I, e, x, E, fl, e', n', q, k⟩ => by
  unfold sPar at q
  split at q
  · cases q
  · rename_i a n1 q1
    split at q
    · cases q
    · rename_i b n2 q2
      split at q
      · rename_i ho
        cases q
        refine ⟨st, n, H0, I, e, x.w, E, a, n1, q1, fun v I1 H1 x1 r1 f1 => ⟨st, n1, H0, I1, e, x1.w, E.mono x1, b, _, q2, fun v2 I2 H2 x2 r2 f2 => ⟨v, v2, rfl, ?_⟩⟩⟩
        have E1 := E.setNew x1 x i r1 f1 (Sv.own_nb ho.1)
        exact k _ I2 H2 ((x.trans x1).trans x2) (E1.setNew x2 (x.trans x1) j r2 f2 (Sv.own_nb ho.2)) (x1.ii.trans x2.ii)
      · cases q
/-! return -/
def sRet (f : FE) : FS := fun e n => match f e n with
  | none => none
  | some (sv, n1) => if sv.own = true then some (.rt sv, e, n1) else none
theorem s_retE (h : PS X s (tRet (tE X.kw f))) : PS X s (tSs X.kw (sRet f)) := h.by fun D σ H ⟨st, n, I0, H0, I, e, x, E, fl, e', n', q, k⟩ => by
  unfold sRet at q
  split at q
  · cases q
  · rename_i sv n1 q1
    split at q
    · cases q
      exact ⟨st, n, H0, I, e, x.w, E, sv, _, q1, fun v I1 H1 x1 r1 f1 => k v I1 H1 (x.trans x1) r1 (Fr.back x r1 f1)⟩
    · cases q
/-- return of a name: a list of one's own goes with it -/
def sRetV (i : Nat) : FS := fun e n => match e[i]? with
  | some (some (.d x)) => some (.rt (.d x), e, n)
  | some (some (.cell xs)) => some (.rt (.cell xs), e, n)
  | _ => none
theorem s_retV {i : Nat} (h : PS X s (tRet (tVar i))) : PS X s (tSs X.kw (sRetV i)) := h.by fun D σ H ⟨st, n, I0, H0, I, e, x, E, fl, e', n', q, k⟩ => by
  unfold sRetV at q
  split at q
  · rename_i y q1
    cases q
    obtain ⟨v, h1, h2, h3⟩ := E.at_ i _ q1
    exact ⟨v, h1, k v I H x h2 trivial⟩
  · rename_i y q1
    cases q
    obtain ⟨v, h1, h2, h3⟩ := E.at_ i _ q1
    exact ⟨v, h1, k v I H x h2 h3⟩
  · cases q
def sRetN : FS := fun e n => some (.rt (.d .none), e, n)
theorem s_retN (h : PS X s tRetN) : PS X s (tSs X.kw sRetN) := h.by fun D σ H ⟨st, n, I0, H0, I, e, x, E, fl, e', n', q, k⟩ => by
  cases q
  exact k .non I H x .non trivial
/-! a call for what it does -/
def sDrop (f : FE) : FS := fun e n => match f e n with
  | none => none
  | some (_, n1) => some (.nx, e, n1)
theorem s_drop (h : PS X s (tDrop (tE X.kw f))) : PS X s (tSs X.kw (sDrop f)) := h.by fun D σ H ⟨st, n, I0, H0, I, e, x, E, fl, e', n', q, k⟩ => by
  unfold sDrop at q
  split at q
  · cases q
  · rename_i sv n1 q1
    cases q
    exact ⟨st, n, H0, I, e, x.w, E, sv, _, q1, fun v I1 H1 x1 r1 f1 => k σ I1 H1 (x.trans x1) (E.mono x1) x1.ii⟩
def sNever : FS := fun _ _ => none
theorem s_never : PS X s (tSs X.kw sNever) := ps_never.by fun D σ H ⟨st, n, I0, H0, I, e, x, E, fl, e', n', q, k⟩ => by cases q
/-! if -/
def sIf (t : FT) (a b : FS) : FS := fun e n => match t e n with
  | none => none
  | some (true, n1) => a e n1
  | some (false, n1) => b e n1
theorem s_ite {c : Expr} {sa sb : List Stmt} {pos : Pos} (hc : PT X c (tTs X.kw ft)) (h1 : PSs X sa (tSs X.kw a)) (h2 : PSs X sb (tSs X.kw b)) : PS X (.If c sa sb pos) (tSs X.kw (sIf ft a b)) := (ps_if hc h1 h2).by fun D σ H ⟨st, n, I0, H0, I, e, x, E, fl, e', n', q, k⟩ => by
  unfold sIf at q
  split at q
  · cases q
  · rename_i n1 q1
    refine ⟨st, n, H0, I, e, x.w, E, true, n1, q1, fun I1 H1 x1 => ?_⟩
    dsimp only
    rw [if_pos rfl]
    exact ⟨st, n1, I0, H0, I1, e, x.trans x1, E.mono x1, fl, e', n', q, Fin.up x1.ii k⟩
  · rename_i n1 q1
    refine ⟨st, n, H0, I, e, x.w, E, false, n1, q1, fun I1 H1 x1 => ?_⟩
    dsimp only
    rw [if_neg Bool.false_ne_true]
    exact ⟨st, n1, I0, H0, I1, e, x.trans x1, E.mono x1, fl, e', n', q, Fin.up x1.ii k⟩
/-! lists of one's own are kept from now on -/
def frzE (e : Ev) : List Nat → Ev
  | [] => e
  | i :: is => match (frzE e is)[i]? with
    | some (some (.cell xs)) => (frzE e is).set i (some (.d (.list xs)))
    | some (some (.tab t kvs)) => (frzE e is).set i (some (.ktab t kvs))
    | _ => frzE e is
/-- the thing that slot i holds becomes another one, nothing else does -/
theorem Er.change {st n I0 H0 I H I2 H2 σ e} {i : Nat} {sv sv2 : Sv} {p : Addr} (x : Xt st n I0 H0 I H) (E : Er K st H0 I H σ e) (q : e[i]? = some (some sv)) (l : sv.loose = true) (hp : σ[i]? = some (some (.ref p)))
    (s : Same I I2) (hI : ∀ b, b ≠ p → I2 b = I b) (hH : ∀ b, b ≠ p → H2 b = H b) (r : SvR K st I2 H2 (.ref p) sv2) (o : Own H0 (.ref p) sv2) : Er K st H0 I2 H2 σ (e.set i (some sv2)) := by
  obtain ⟨v, h1, h2, h3⟩ := E.at_ i sv q
  rw [hp] at h1
  cases h1
  have p0 : H0 p = none := by
    cases sv with
    | cell _ => exact h3 p rfl
    | tab _ _ => exact h3 p rfl
    | d _ => cases l
    | bor _ => cases l
    | st => cases l
    | kn _ => cases l
    | btab _ _ => cases l
    | ktab _ _ => cases l
  have li : i < e.length := (List.getElem?_eq_some_iff.mp q).1
  refine ⟨by rw [List.length_set]; exact E.len, fun j sv' qj => ?_, fun j k a b p' hjk q1 q2 l1 l2 q3 => ?_⟩
  · by_cases hj : i = j
    · subst hj
      rw [List.getElem?_set_self li] at qj
      cases qj
      exact ⟨_, hp, r, o⟩
    · rw [List.getElem?_set_ne hj] at qj
      obtain ⟨w, g1, g2, g3⟩ := E.at_ j sv' qj
      refine ⟨w, g1, ?_, g3⟩
      have own_ne : sv'.loose = true → ∀ p2, w = .ref p2 → p2 ≠ p := fun l' p2 e2 z => by
        subst z
        subst e2
        exact E.ap i j sv sv' p2 hj q qj l l' hp g1
      have lent_ne : ∀ p2, (H0 p2).isSome = true → p2 ≠ p := fun p2 z1 z => by
        rw [z, p0] at z1
        cases z1
      cases sv' with
      | d y => exact Dp.mono s _ _ g2
      | cell ys =>
        obtain ⟨p2, us, e2, k1, k2, k3, k4⟩ := g2
        have hne := own_ne rfl p2 e2
        exact ⟨p2, us, e2, by rw [hH p2 hne]; exact k1, by rw [hI p2 hne]; exact k2, k3, DpAll.mono s _ _ k4⟩
      | bor ys =>
        obtain ⟨p2, us, e2, k1, k2, k3, k4⟩ := g2
        have hne := lent_ne p2 (g3 p2 e2)
        exact ⟨p2, us, e2, by rw [hH p2 hne]; exact k1, by rw [hI p2 hne]; exact k2, k3, DpAll.mono s _ _ k4⟩
      | st => exact g2
      | kn u => exact g2
      | tab t kvs =>
        obtain ⟨p2, us, e2, k1, k2, k3, k4⟩ := g2
        have hne := own_ne rfl p2 e2
        exact ⟨p2, us, e2, by rw [hH p2 hne]; exact k1, by rw [hI p2 hne]; exact k2, k3, k4.mono s⟩
      | btab t kvs =>
        obtain ⟨p2, us, e2, k1, k2, k3, k4⟩ := g2
        have hne := lent_ne p2 (g3 p2 e2)
        exact ⟨p2, us, e2, by rw [hH p2 hne]; exact k1, by rw [hI p2 hne]; exact k2, k3, k4.mono s⟩
      | ktab t kvs =>
        obtain ⟨p2, u, e2, k1, k2⟩ := g2
        exact ⟨p2, u, e2, s _ _ k1, k2.mono s⟩
  · have n1 : ∀ (j' : Nat) (c : Sv), (e.set i (some sv2))[j']? = some (some c) → c.loose = true → ∃ c', e[j']? = some (some c') ∧ c'.loose = true := fun j' c h lc => by
      by_cases z : i = j'
      · subst z
        exact ⟨sv, q, l⟩
      · rw [List.getElem?_set_ne z] at h
        exact ⟨c, h, lc⟩
    obtain ⟨z1, m1, o1⟩ := n1 j a q1 l1
    obtain ⟨z2, m2, o2⟩ := n1 k b q2 l2
    exact E.ap j k z1 z2 p' hjk m1 m2 o1 o2 q3
theorem Er.frz1 {st n I0 H0 I H σ e} {i : Nat} {xs : List PyData} (x : Xt st n I0 H0 I H) (E : Er K st H0 I H σ e) (q : e[i]? = some (some (.cell xs))) : ∃ I', Xt st n I0 H0 I' H ∧ Same I I' ∧ Er K st H0 I' H σ (e.set i (some (.d (.list xs)))) := by
  obtain ⟨v, h1, ⟨p, vs, ev, h2, h3, h4, h5⟩, h6⟩ := E.at_ i _ q
  subst ev
  have p0 : H0 p = none := h6 p rfl
  have s1 : Same I (upd I p (.lst vs)) := same_new h3
  exact ⟨_, x.freeze p0 h4 h2, s1, E.change (sv2 := .d (.list xs)) x q rfl h1 s1 (fun b hb => upd_ne hb) (fun _ _ => rfl) (.lst (SqL.of upd_same) (DpAll.mono s1 _ _ h5)) trivial⟩
theorem Er.frz2 {st n I0 H0 I H σ e} {i : Nat} {t : Bool} {kvs : List (PyData × PyData)} (x : Xt st n I0 H0 I H) (E : Er K st H0 I H σ e) (q : e[i]? = some (some (.tab t kvs))) : ∃ I', Xt st n I0 H0 I' H ∧ Same I I' ∧ Er K st H0 I' H σ (e.set i (some (.ktab t kvs))) := by
  obtain ⟨v, h1, ⟨p, o, ev, h2, h3, h4, h5⟩, h6⟩ := E.at_ i _ q
  subst ev
  have p0 : H0 p = none := h6 p rfl
  have s1 : Same I (upd I p (rawO p o)) := same_new h3
  exact ⟨_, x.freezeO p0 h4 h2 rawO_tup, s1, E.change (sv2 := .ktab t kvs) x q rfl h1 s1 (fun b hb => upd_ne hb) (fun _ _ => rfl) ⟨p, o, rfl, upd_same, h5.mono s1⟩ trivial⟩
theorem Er.frz {st n I0 H0 I H σ e} (x : Xt st n I0 H0 I H) (E : Er K st H0 I H σ e) : ∀ is : List Nat, ∃ I', Xt st n I0 H0 I' H ∧ Same I I' ∧ Er K st H0 I' H σ (frzE e is)
  | [] => ⟨I, x, Same.refl _, E⟩
  | i :: is => by
    obtain ⟨I1, x1, t1, E1⟩ := Er.frz x E is
    unfold frzE
    split
    · rename_i xs q
      obtain ⟨I2, x2, t2, E2⟩ := E1.frz1 x1 q
      exact ⟨I2, x2, t1.trans t2, E2⟩
    · rename_i t kvs q
      obtain ⟨I2, x2, t2, E2⟩ := E1.frz2 x1 q
      exact ⟨I2, x2, t1.trans t2, E2⟩
    · exact ⟨I1, x1, t1, E1⟩
def sFrz (is : List Nat) (a : FS) : FS := fun e n => a (frzE e is) n
theorem s_frz {is : List Nat} (h : PS X s (tSs X.kw a)) : PS X s (tSs X.kw (sFrz is a)) := h.by fun D σ H ⟨st, n, I0, H0, I, e, x, E, fl, e', n', q, k⟩ => by
  obtain ⟨I1, x1, t1, E1⟩ := E.frz x is
  exact ⟨st, n, I0, H0, I1, _, x1, E1, fl, e', n', q, Fin.up t1 k⟩
/-! ### lists of one's own -/
def cellAt (e : Ev) (i : Nat) : Option (List PyData) := match e[i]? with
  | some (some (.cell xs)) => some xs
  | _ => none
theorem cellAt_eq {e : Ev} {i : Nat} {xs : List PyData} (h : cellAt e i = some xs) : e[i]? = some (some (.cell xs)) := by
  unfold cellAt at h
  split at h
  · rename_i q; cases h; exact q
  · cases h
/-- the list in slot i becomes another one -/
theorem Er.put {st n I0 H0 I H σ e} {i : Nat} {xs ys : List PyData} {p : Addr} {us : List V} (x : Xt st n I0 H0 I H) (E : Er K st H0 I H σ e) (q : e[i]? = some (some (.cell xs))) (hp : σ[i]? = some (some (.ref p))) (hd : DpAll K I us ys) :
    Xt st n I0 H0 I (upd H p (.lst us)) ∧ Er K st H0 I (upd H p (.lst us)) σ (e.set i (some (.cell ys))) := by
  obtain ⟨v, h1, ⟨p', vs, ev, h2, h3, h4, h5⟩, h6⟩ := E.at_ i _ q
  rw [hp] at h1
  cases h1
  cases ev
  have p0 : H0 p = none := h6 p rfl
  exact ⟨x.put p0 h3 h4, E.change (sv2 := .cell ys) x q rfl hp (Same.refl _) (fun _ _ => rfl) (fun b hb => upd_ne hb) ⟨p, us, rfl, upd_same, h3, h4, hd⟩ h6⟩
/-- the dict in slot i becomes another one -/
theorem Er.putT {st n I0 H0 I H σ e} {i : Nat} {t : Bool} {kvs kvs2 : List (PyData × PyData)} {p : Addr} {o : Obj} (x : Xt st n I0 H0 I H) (E : Er K st H0 I H σ e) (q : e[i]? = some (some (.tab t kvs))) (hp : σ[i]? = some (some (.ref p))) (hd : TabR K I p o t kvs2) :
    Xt st n I0 H0 I (upd H p (rawO p o)) ∧ Er K st H0 I (upd H p (rawO p o)) σ (e.set i (some (.tab t kvs2))) := by
  obtain ⟨v, h1, ⟨p', vs, ev, h2, h3, h4, h5⟩, h6⟩ := E.at_ i _ q
  rw [hp] at h1
  cases h1
  cases ev
  have p0 : H0 p = none := h6 p rfl
  exact ⟨x.putO p0 h3 h4 rawO_tup, E.change (sv2 := .tab t kvs2) x q rfl hp (Same.refl _) (fun _ _ => rfl) (fun b hb => upd_ne hb) ⟨p, o, rfl, upd_same, h3, h4, hd⟩ h6⟩
def sApp (i : Nat) (f : FE) : FS := fun e n => match f e n with
  | none => none
  | some (sv, n1) => match sv.take, cellAt e i with
    | some y, some xs => if xs.length < big then some (.nx, e.set i (some (.cell (xs ++ [y]))), n1) else none
    | _, _ => none
theorem s_app {i : Nat} (h : PS X s (tDrop (tBM X.K "list" rAppend (tVar i) (tCons (tE X.kw f) tNil)))) : PS X s (tSs X.kw (sApp i f)) := h.by fun D σ H ⟨st, n, I0, H0, I, e, x, E, fl, e', n', q, k⟩ => by
  unfold sApp at q
  split at q
  · cases q
  · rename_i sv n1 q1
    split at q
    · rename_i y xs q2 q3
      split at q
      · rename_i hl
        cases q
        obtain ⟨v, h1, ⟨p, vs, ev, h2, h3, h4, h5⟩, h6⟩ := E.at_ i _ (cellAt_eq q3)
        subst ev
        refine ⟨.ref p, h1, .inl ⟨rfl, _, SqL.of h2⟩, st, n, H0, I, e, x.w, E, sv, _, q1, fun w I1 H1 x1 r1 f1 => ?_⟩
        obtain ⟨I2, x2, _, k2⟩ := SvR.keep x1 r1 f1 q2
        have hp2 := x2.hh p _ h4 h2
        refine ⟨p, vs, w, rfl, rfl, hp2, by rw [DpAll.len h5]; exact Nat.lt_trans hl (by decide), ?_⟩
        obtain ⟨x3, E3⟩ := Er.put (x.trans x2) (E.mono x2) (cellAt_eq q3) h1 (DpAll.app (DpAll.mono x2.ii _ _ h5) (.cons k2 .nil))
        exact k σ I2 _ x3 E3 x2.ii
      · cases q
    · cases q
def sExt (i : Nat) (f : FE) : FS := fun e n => match f e n with
  | none => none
  | some (.cell ys, n1) => (match cellAt e i with
    | some xs => if xs.length + ys.length ≤ big then some (.nx, e.set i (some (.cell (xs ++ ys))), n1) else none
    | none => none)
  | some (.bor ys, n1) => (match cellAt e i with
    | some xs => if xs.length + ys.length ≤ big then some (.nx, e.set i (some (.cell (xs ++ ys))), n1) else none
    | none => none)
  | _ => none
theorem ext_of {D : Ends} {σ H st n n1 I0 H0 I e} {i : Nat} {xs ys : List PyData} {sv : Sv} (x : Xt st n I0 H0 I H) (E : Er K st H0 I H σ e) (q1 : f e n = some (sv, n1)) (hsv : sv = .cell ys ∨ sv = .bor ys) (q3 : cellAt e i = some xs) (hl : xs.length + ys.length ≤ big)
    (k : ∀ σ' I' H', Xt st n1 I0 H0 I' H' → Er K st H0 I' H' σ' (e.set i (some (.cell (xs ++ ys)))) → Same I I' → D.nx σ' H') : tDrop (tBM K "list" rExtend (tVar i) (tCons (tE K f) tNil)) D σ H := by
  obtain ⟨v, h1, ⟨p, vs, ev, h2, h3, h4, h5⟩, h6⟩ := E.at_ i _ (cellAt_eq q3)
  subst ev
  refine ⟨.ref p, h1, .inl ⟨rfl, _, SqL.of h2⟩, st, n, H0, I, e, x.w, E, sv, _, q1, fun w I1 H1 x1 r1 f1 => ?_⟩
  have r2 : ∃ p us, w = .ref p ∧ H1 p = some (.lst us) ∧ I1 p = none ∧ p ≠ st ∧ DpAll K I1 us ys := by
    rcases hsv with z | z <;> (subst z; exact r1)
  obtain ⟨b, us, e2, g1, g2, g3, g4⟩ := r2
  subst e2
  have hp2 := x1.hh p _ h4 h2
  refine ⟨p, b, vs, us, rfl, rfl, hp2, g1, by rw [DpAll.len h5, DpAll.len g4]; exact big_le hl, ?_⟩
  obtain ⟨x3, E3⟩ := Er.put (x.trans x1) (E.mono x1) (cellAt_eq q3) h1 (DpAll.app (DpAll.mono x1.ii _ _ h5) g4)
  exact k σ I1 _ x3 E3 x1.ii
theorem s_ext {i : Nat} (h : PS X s (tDrop (tBM X.K "list" rExtend (tVar i) (tCons (tE X.kw f) tNil)))) : PS X s (tSs X.kw (sExt i f)) := h.by fun D σ H ⟨st, n, I0, H0, I, e, x, E, fl, e', n', q, k⟩ => by
  unfold sExt at q
  split at q
  · cases q
  · rename_i ys n1 q1
    split at q
    · rename_i xs q3
      split at q
      · rename_i hl
        cases q
        exact ext_of x E q1 (.inl rfl) q3 hl k
      · cases q
    · cases q
  · rename_i ys n1 q1
    split at q
    · rename_i xs q3
      split at q
      · rename_i hl
        cases q
        exact ext_of x E q1 (.inr rfl) q3 hl k
      · cases q
    · cases q
  · cases q
/-- a.append(b.pop(e)) -/
def sAppPop (i j : Nat) (f : FE) : FS := fun e n => match f e n with
  | some (.d (.int c), n1) => (match cellAt e i, cellAt e j with
    | some xs, some ys => (match seqIndex? c ys.length with
      | some k => (match ys[k]? with
        | some y => if i ≠ j ∧ xs.length < big ∧ smallI c = true then some (.nx, (e.set j (some (.cell (ys.eraseIdx k)))).set i (some (.cell (xs ++ [y]))), n1) else none
        | none => none)
      | none => none)
    | _, _ => none)
  | _ => none
theorem DpAll.erase {I : Hp} : ∀ {vs : List V} {ds : List PyData} (k : Nat), DpAll K I vs ds → DpAll K I (vs.eraseIdx k) (ds.eraseIdx k)
  | [], _, _, h => by cases h; exact .nil
  | _ :: _, _, 0, h => by
    cases h with
    | cons _ h2 => exact h2
  | _ :: _, _, k + 1, h => by
    cases h with
    | cons h1 h2 => exact .cons h1 (DpAll.erase k h2)
theorem s_appPop {i j : Nat} (h : PS X s (tDrop (tBM X.K "list" rAppend (tVar i) (tCons (tBM X.K "list" rPopAt (tVar j) (tCons (tE X.kw f) tNil)) tNil)))) : PS X s (tSs X.kw (sAppPop i j f)) := h.by fun D σ H ⟨st, n, I0, H0, I, e, x, E, fl, e', n', q, k⟩ => by
  unfold sAppPop at q
  split at q
  · rename_i c n1 q1
    split at q
    · rename_i xs ys q3 q4
      split at q
      · rename_i m q5
        split at q
        · rename_i y q6
          split at q
          · rename_i hc
            obtain ⟨hij, hl, hs⟩ := hc
            cases q
            obtain ⟨v, h1, ⟨p, vs, ev, h2, h3, h4, h5⟩, h6⟩ := E.at_ i _ (cellAt_eq q3)
            obtain ⟨v', g1, ⟨p', us, ev', g2, g3, g4, g5⟩, g6⟩ := E.at_ j _ (cellAt_eq q4)
            subst ev
            subst ev'
            have hpp : p ≠ p' := fun z => E.ap i j (.cell xs) (.cell ys) p hij (cellAt_eq q3) (cellAt_eq q4) rfl rfl h1 (by rw [z]; exact g1)
            refine ⟨.ref p, h1, .inl ⟨rfl, _, SqL.of h2⟩, .ref p', g1, .inl ⟨rfl, _, SqL.of g2⟩, st, n, H0, I, e, x.w, E, _, _, q1, fun w I1 H1 x1 r1 f1 => ?_⟩
            cases r1
            have g2' := x1.hh p' _ g4 g2
            have h2' := x1.hh p _ h4 h2
            have g5' := DpAll.mono x1.ii _ _ g5
            have h5' := DpAll.mono x1.ii _ _ h5
            obtain ⟨u, eu, ku⟩ := DpAll.got g5' q6
            refine ⟨p', us, c, m, u, rfl, rfl, g2', ?_, ?_, by rw [DpAll.len g5]; exact q5, eu, ?_⟩
            · have := (small_of hs).1; omega
            · have := (small_of hs).2; omega
            · have E1 := E.mono x1
              have xx := x.trans x1
              obtain ⟨x2, E2⟩ := Er.put xx E1 (cellAt_eq q4) g1 (DpAll.erase m g5')
              have h2'' : upd H1 p' (.lst (us.eraseIdx m)) p = some (.lst vs) := by rw [upd_ne hpp]; exact h2'
              refine ⟨p, vs, u, rfl, rfl, h2'', by rw [DpAll.len h5]; exact Nat.lt_trans hl (by decide), ?_⟩
              have q3' : (e.set j (some (.cell (ys.eraseIdx m))))[i]? = some (some (.cell xs)) := by rw [List.getElem?_set_ne (Ne.symm hij)]; exact cellAt_eq q3
              obtain ⟨x3, E3⟩ := Er.put x2 E2 q3' h1 (DpAll.app h5' (.cons ku .nil))
              exact k σ I1 _ x3 E3 x1.ii
          · cases q
        · cases q
      · cases q
    · cases q
  · cases q
/-- the state of draws grows -/
def sDraw (i : Nat) : FS := fun e n => match e[i]? with
  | some (some .st) => if n < big then some (.nx, e, n + 1) else none
  | _ => none
theorem Er.draw {st n I H σ e} (w : Wr st n I H) (E : Er K st H0 I H σ e) : Er K st H0 I (upd H st (.lst (List.replicate n (.int 0) ++ [.int 0]))) σ e := E.mono (Xt.draw w)
theorem st_draw {i : Nat} (h : PS X s (tDrop (tBM X.K "list" rAppend (tVar i) (tCons (tC (.int 0)) tNil)))) : PS X s (tSs X.kw (sDraw i)) := h.by fun D σ H ⟨st, n, I0, H0, I, e, x, E, fl, e', n', q, k⟩ => by
  unfold sDraw at q
  split at q
  · rename_i q1
    split at q
    · rename_i hl
      cases q
      obtain ⟨v, h1, h2, _⟩ := E.at_ i _ q1
      cases h2
      refine ⟨.ref st, h1, .inl ⟨rfl, _, SqL.of x.w.hst⟩, st, _, .int 0, rfl, rfl, x.w.hst, by rw [List.length_replicate]; exact Nat.lt_trans hl (by decide), ?_⟩
      exact k σ I _ (x.trans (Xt.draw x.w)) (E.mono (Xt.draw x.w)) (Same.refl _)
    · cases q
  · cases q
/-! len, of the state too -/
def lenS (fa : FA) : FE := fun e n => match fa e n with
  | some ([.st], n1) => some (.d (.int n1), n1)
  | some (as, n1) => (match see1 lenG as with
    | some r => some (r, n1)
    | none => none)
  | none => none
theorem e_len {e0 : Expr} (h : PE X e0 (tCB (rLenA X.kw) (tAs X.kw fa))) : PE X e0 (tE X.kw (lenS fa)) := h.by fun σ H Q ⟨st, n, H0, I, ev, w, E, sv, n', q, k⟩ => by
  unfold lenS at q
  split at q
  · rename_i n1 q1
    cases q
    refine ⟨st, n, H0, I, ev, w, E, _, _, q1, fun vs I1 H1 x1 r1 => ?_⟩
    cases r1 with
    | cons h1 _ h2 =>
      cases h2
      cases h1
      exact .inl ⟨st, _, rfl, .inl (SqL.of x1.w.hst), by rw [List.length_replicate]; exact k _ I1 H1 x1 (.int _) trivial⟩
  · rename_i as n1 _ q1
    split at q
    · rename_i rr q2
      cases q
      exact ⟨st, n, H0, I, ev, w, E, as, _, q1, fun vs I1 H1 x1 r1 => cd_lenA st _ I1 H1 vs as sv Q x1.w r1 q2 fun v I2 H2 x2 r2 f2 => k v I2 H2 (x1.trans x2) r2 (Fr.back x1 r2 f2)⟩
    · cases q
  · cases q
end
end Sb

/-! P6: loops, defs, the law. -/
namespace Sb
open PySem PySem.Spec PyProof.Rows L2
section
variable {X : Cx} {s : Stmt} {ss : List Stmt} {e : Expr} {f g : FE} {fa : FA} {ft : FT} {a b : FS} {K : KW}
def forL (tg : FG) (wp : List Nat) (body : FS) : List PyData → Ev → Nat → Option (Fl × Ev × Nat)
  | [], e, n => some (.nx, e, n)
  | x :: xs, e, n => match tg x e with
    | none => none
    | some e1 => match body e1 n with
      | none => none
      | some (.nx, e2, n2) => forL tg wp body xs (wipeE e2 wp) n2
      | some (.ct, e2, n2) => forL tg wp body xs (wipeE e2 wp) n2
      | some (.bk, e2, n2) => some (.nx, wipeE e2 wp, n2)
      | some (.rt v, e2, n2) => some (.rt v, e2, n2)
def sFor (it : FI) (tg : FG) (wp : List Nat) (body : FS) : FS := fun e n => match it e n with
  | none => none
  | some (xs, n1) => if xs.length ≤ big then forL tg wp body xs e n1 else none
theorem s_for {g : TG} {tg : FG} {sl wp : List Nat} {it : FI} (hg : GDo X.kw g tg sl) (h : PS X s (tFor (tIs X.kw false it) g (tSs X.kw a))) : PS X s (tSs X.kw (sFor it tg wp a)) := h.by fun D σ H ⟨st, n, I0, H0, I, e, x, E, fl, e', n', q, k⟩ => by
  unfold sFor at q
  split at q
  · cases q
  · rename_i xs n1 q1
    split at q
    · rename_i hl
      refine ⟨st, n, H0, I, e, x.w, E, xs, n1, q1, hl, fun J I1 H1 x1 ⟨G, Y, wk, hG, hY⟩ => ?_⟩
      refine for_it wk (fun i σ H => ∃ I' m ev, Xt st m I0 H0 I' H ∧ Er X.kw st H0 I' H σ ev ∧ Same I1 I' ∧ forL tg wp a (xs.drop i) ev m = some (fl, e', n'))
        ⟨I1, n1, e, x.trans x1, E.mono x1, Same.refl _, q⟩ ?_ ?_ ?_
      · rintro i σ' H' _ ⟨I', m, ev, x2, E2, s2, _⟩
        exact hG m I' H' x2.w s2 (fun z => nomatch z)
      · rintro i y σ' H' H'' hi ⟨I', m, ev, x2, E2, s2, q2⟩ yy
        obtain ⟨I2, d, e1, x3, kd⟩ := hY m I' H' i y H'' x2.w s2 (fun z => nomatch z) hi yy
        have hdr : xs.drop i = d :: xs.drop (i + 1) := by
          rw [List.drop_eq_getElem_cons hi]
          congr 1
          rw [List.getElem?_eq_getElem hi] at e1
          exact Option.some.inj e1
        rw [hdr] at q2
        unfold forL at q2
        split at q2
        · cases q2
        · rename_i ev1 p1
          refine hg st H0 m I2 H'' σ' ev y d ev1 _ x3.w (E2.mono x3) kd p1 fun σ2 E4 _ _ => ?_
          have x23 := x2.trans x3
          split at q2
          · cases q2
          · rename_i ev2 m2 p2
            exact ⟨st, m, I0, H0, I2, ev1, x23, E4, .nx, ev2, m2, p2, fun σ5 I5 H5 x5 E5 s5 => ⟨I5, m2, _, x5, E5.wipeE wp, (s2.trans x3.ii).trans s5, q2⟩⟩
          · rename_i ev2 m2 p2
            exact ⟨st, m, I0, H0, I2, ev1, x23, E4, .ct, ev2, m2, p2, fun σ5 I5 H5 x5 E5 s5 => ⟨I5, m2, _, x5, E5.wipeE wp, (s2.trans x3.ii).trans s5, q2⟩⟩
          · rename_i ev2 m2 p2
            cases q2
            exact ⟨st, m, I0, H0, I2, ev1, x23, E4, .bk, ev2, _, p2, fun σ5 I5 H5 x5 E5 s5 => k σ5 I5 H5 x5 (E5.wipeE wp) ((x1.ii.trans (s2.trans x3.ii)).trans s5)⟩
          · rename_i v ev2 m2 p2
            cases q2
            exact ⟨st, m, I0, H0, I2, ev1, x23, E4, .rt v, _, _, p2, fun w I5 H5 x5 r5 f5 => k w I5 H5 x5 r5 f5⟩
      · rintro σ' H' ⟨I', m, ev, x2, E2, s2, q2⟩
        rw [List.drop_length] at q2
        unfold forL at q2
        cases q2
        exact k σ' I' H' x2 E2 (x1.ii.trans s2)
    · cases q
/-! while: at most so many turns -/
def whL (t : FT) (wp : List Nat) (body : FS) : Nat → Ev → Nat → Option (Fl × Ev × Nat)
  | 0, _, _ => none
  | j + 1, e, n => match t e n with
    | none => none
    | some (false, n1) => some (.nx, e, n1)
    | some (true, n1) => match body e n1 with
      | none => none
      | some (.nx, e2, n2) => whL t wp body j (wipeE e2 wp) n2
      | some (.ct, e2, n2) => whL t wp body j (wipeE e2 wp) n2
      | some (.bk, e2, n2) => some (.nx, wipeE e2 wp, n2)
      | some (.rt v, e2, n2) => some (.rt v, e2, n2)
def sWhile (t : FT) (wp : List Nat) (body : FS) (fuel : Nat) : FS := fun e n => whL t wp body fuel e n
theorem s_while {wp : List Nat} {fuel : Nat} (h : PS X s (tWhile (tTs X.kw ft) (tSs X.kw a))) : PS X s (tSs X.kw (sWhile ft wp a fuel)) := h.by fun D σ H ⟨st, n, I0, H0, I, e, x, E, fl, e', n', q, k⟩ => by
  unfold sWhile at q
  refine ⟨fun j σ H => ∃ I' m ev, Xt st m I0 H0 I' H ∧ Er X.kw st H0 I' H σ ev ∧ Same I I' ∧ whL ft wp a j ev m = some (fl, e', n'), ⟨fuel, I, n, e, x, E, Same.refl _, q⟩, ?_⟩
  rintro j σ1 H1 ⟨I1, m, ev, x1, E1, s1, q1⟩
  cases j with
  | zero => unfold whL at q1; cases q1
  | succ j =>
    unfold whL at q1
    split at q1
    · cases q1
    · rename_i m1 p1
      cases q1
      refine ⟨st, m, H0, I1, _, x1.w, E1, false, _, p1, fun I2 H2 x2 => ?_⟩
      dsimp only
      rw [if_neg Bool.false_ne_true]
      exact k σ1 I2 H2 (x1.trans x2) (E1.mono x2) (s1.trans x2.ii)
    · rename_i m1 p1
      refine ⟨st, m, H0, I1, ev, x1.w, E1, true, m1, p1, fun I2 H2 x2 => ?_⟩
      dsimp only
      rw [if_pos rfl]
      refine ⟨fun σ' H' => ∃ I' m ev, Xt st m I0 H0 I' H' ∧ Er X.kw st H0 I' H' σ' ev ∧ Same I I' ∧ whL ft wp a j ev m = some (fl, e', n'), fun σ' H' z => ⟨j, Nat.lt_succ_self _, z⟩, ?_⟩
      have x12 := x1.trans x2
      have E2 := E1.mono x2
      have s2 := s1.trans x2.ii
      split at q1
      · cases q1
      · rename_i ev2 m2 p2
        exact ⟨st, m1, I0, H0, I2, ev, x12, E2, .nx, ev2, m2, p2, fun σ5 I5 H5 x5 E5 s5 => ⟨I5, m2, _, x5, E5.wipeE wp, s2.trans s5, q1⟩⟩
      · rename_i ev2 m2 p2
        exact ⟨st, m1, I0, H0, I2, ev, x12, E2, .ct, ev2, m2, p2, fun σ5 I5 H5 x5 E5 s5 => ⟨I5, m2, _, x5, E5.wipeE wp, s2.trans s5, q1⟩⟩
      · rename_i ev2 m2 p2
        cases q1
        exact ⟨st, m1, I0, H0, I2, ev, x12, E2, .bk, ev2, _, p2, fun σ5 I5 H5 x5 E5 s5 => k σ5 I5 H5 x5 (E5.wipeE wp) (s2.trans s5)⟩
      · rename_i v ev2 m2 p2
        cases q1
        exact ⟨st, m1, I0, H0, I2, ev, x12, E2, .rt v, _, _, p2, fun w I5 H5 x5 r5 f5 => k w I5 H5 x5 r5 f5⟩
end
/-! ### defs -/
def argsE (N np : Nat) (as : List Sv) : Ev := as.map some ++ List.replicate (N - np) none
def runF (N np : Nat) (body : FS) : FF := fun as n => if as.length = np then match body (argsE N np as) n with
    | some (.nx, _, n') => some (.d .none, n')
    | some (.rt v, _, n') => some (v, n')
    | _ => none
  else none
section
variable {K : KW}
theorem argsR_get {st I H} : ∀ {vs : List V} {as : List Sv} {i : Nat} {sv : Sv}, ArgsR K st I H vs as → as[i]? = some sv → ∃ v, vs[i]? = some v ∧ SvR K st I H v sv ∧ sv.loose = false
  | _, _, _, _, .nil, h => by simp at h
  | _, _, 0, sv, .cons h1 h2 h3, h => by
    simp at h
    subst h
    exact ⟨_, rfl, h1, h2⟩
  | _, _, i + 1, sv, .cons h1 h2 h3, h => by
    obtain ⟨v, g⟩ := argsR_get (i := i) h3 (by simpa using h)
    exact ⟨v, by simpa using g⟩
theorem er_start {st : Addr} {I H : Hp} {N : List Str} {vs : List V} {as : List Sv} {np : Nat} (ra : ArgsR K st I H vs as) (hn : as.length = np) : Er K st H I H (L2.start N vs) (argsE N.length np as) := by
  have hl := ra.len
  have gone : ∀ (i : Nat) (sv : Sv), (argsE N.length np as)[i]? = some (some sv) → i < as.length ∧ as[i]? = some sv := fun i sv h => by
    unfold argsE at h
    by_cases hi : i < as.length
    · rw [List.getElem?_append_left (by simpa using hi), List.getElem?_map] at h
      cases q : as[i]? with
      | none => rw [q] at h; cases h
      | some z => rw [q] at h; cases h; exact ⟨hi, rfl⟩
    · rw [List.getElem?_append_right (by simpa using hi), List.getElem?_replicate] at h
      split at h <;> cases h
  refine ⟨?_, fun i sv h => ?_, fun i j xs ys p _ h _ lo _ _ => ?_⟩
  · unfold L2.start argsE
    rw [List.length_append, List.length_append, List.length_map, List.length_map, List.length_replicate, List.length_replicate]
    omega
  · obtain ⟨hi, e⟩ := gone i sv h
    obtain ⟨v, g1, g2, g3⟩ := argsR_get ra e
    refine ⟨v, ?_, g2, ?_⟩
    · unfold L2.start
      rw [List.getElem?_append_left (by rw [List.length_map, hl]; exact hi), List.getElem?_map, g1]
      rfl
    · cases sv with
      | d _ => trivial
      | cell xs => cases g3
      | tab _ _ => cases g3
      | kn _ => trivial
      | ktab _ _ => trivial
      | btab t kvs =>
        obtain ⟨p, us, e1, h1, _⟩ := g2
        intro p' e'
        have : p' = p := V.ref.inj (e'.symm.trans e1)
        rw [this, h1]
        rfl
      | bor xs =>
        obtain ⟨p, us, e1, h1, _⟩ := g2
        intro p' e'
        have : p' = p := V.ref.inj (e'.symm.trans e1)
        rw [this, h1]
        rfl
      | st => trivial
  · obtain ⟨_, e⟩ := gone i _ h
    obtain ⟨_, _, _, g3⟩ := argsR_get ra e
    rw [g3] at lo
    cases lo
end
section
variable {P : Program} {w : World} {K : PySem.W.Frag} {mg : Str → Option Value} {base : Heap}
theorem fn_pi {x qual : Str} {st : Stmt} {f : Addr} {fd : FuncData} {N ps : List Str} {k : Nat} {body : FS} (F : Fun K x qual st f fd) (S : FnScope N ps (defScope st))
    (hb : ∀ (cdv : Value) (A : Around) (outer : List Env) (s : Shared) (H : Hp) (E : XK), Room k (A.deeper (envOfC qual (defScope st) s.heap.objs.size f cdv)) → PSs (cxOf CX0 P w K mg base N qual (defScope st) f cdv A outer s H E).nox (defBody st) (tSs ⟨K, P, w⟩ body)) :
    FnOk P w K mg base CX0 (k + 1) f fd ps (spF ⟨K, P, w⟩ ps.length (runF N.length ps.length body)) := by
  refine F.ok S (fun vs H Q E h => h.1) (fun cdv A outer s H vs Q E hr h => ⟨_, hb cdv A outer s H E hr, ?_⟩)
  obtain ⟨_, stt, n, I, as, w1, ra, sv, n', q, k⟩ := h
  unfold runF at q
  split at q
  · rename_i hn
    split at q
    · rename_i e' m q1
      cases q
      exact ⟨stt, n, I, H, I, _, .refl w1, er_start ra hn, .nx, e', _, q1, fun σ' I' H' x' _ _ => k .non I' H' x' .non trivial⟩
    · rename_i v e' m q1
      cases q
      exact ⟨stt, n, I, H, I, _, .refl w1, er_start ra hn, .rt _, e', _, q1, fun v I' H' x' r' f' => k v I' H' x' r' f'⟩
    · cases q
  · cases q
/-! ### the law -/
def scriptD (ns : List Int) : PyData := .list (ns.map PyData.int)
def spLaw (K : PySem.W.Frag) : Sp := fun vs H Q _ => ∃ (a : Addr) (ns : List Int), vs = [.ref a] ∧ Only H ∧ SqL K H a (ns.map V.int) ∧ ns.length ≤ 63 ∧ ∀ H', Q (.bl true) H'
theorem law_pi {x qual : Str} {st : Stmt} {f : Addr} {fd : FuncData} {N : List Str} {k i : Nat} {body : FS} (F : Fun K x qual st f fd) (S : FnScope N ["_law_script"] (defScope st)) (hi : i ≠ 0) (hN : 1 ≤ N.length)
    (hm : ∀ ns : List Int, ns.length ≤ 63 → ∃ e' n', body ((argsE N.length 1 [.d (scriptD ns)]).set i (some .st)) 0 = some (.rt (.d (.bool true)), e', n'))
    (hb : ∀ (cdv : Value) (A : Around) (outer : List Env) (s : Shared) (H : Hp) (E : XK), Room k (A.deeper (envOfC qual (defScope st) s.heap.objs.size f cdv)) → PSs (cxOf CX0 P w K mg base N qual (defScope st) f cdv A outer s H E).nox (defBody st) (tSeq (tAsg (tLst tNil) (gName i)) (tSs ⟨K, P, w⟩ body))) :
    FnOk P w K mg base CX0 (k + 1) f fd ["_law_script"] (spLaw K) := by
  refine F.ok S (fun vs H Q E h => ?_) (fun cdv A outer s H vs Q E hr h => ⟨_, hb cdv A outer s H E hr, ?_⟩)
  · obtain ⟨a, ns, rfl, _⟩ := h
    rfl
  · obtain ⟨a, ns, rfl, hO, hS, hl, q⟩ := h
    refine ⟨Nat.zero_le _, fun p hp => ?_⟩
    obtain ⟨e', n', q1⟩ := hm ns hl
    have W : Wr p 0 H (upd H p (.lst [])) := ⟨⟨same_new hp, fun b xs e => by
      by_cases z : b = p
      · subst z
        rw [upd_same] at e
        cases e
      · rw [upd_ne z] at e
        exact e⟩, hp, upd_same⟩
    have hd : Dp K H (.ref a) (scriptD ns) := .lst hS (DpAll.ints ns)
    have ra : ArgsR ⟨K, P, w⟩ p H (upd H p (.lst [])) [.ref a] [.d (scriptD ns)] := .cons hd rfl .nil
    have E0 := er_start (N := N) ra (np := 1) rfl
    have E1 : Er ⟨K, P, w⟩ p (upd H p (.lst [])) H (upd H p (.lst [])) ((L2.start N [.ref a]).set i (some (.ref p))) ((argsE N.length 1 [.d (scriptD ns)]).set i (some .st)) := E0.set i (sv := .st) rfl trivial (fun _ _ _ z => nomatch z)
    exact ⟨p, 0, H, _, H, _, .refl W, E1, .rt _, e', n', q1, fun v I' H' x' r' f' => by cases r'; exact q H'⟩
end
end Sb

namespace Sb
open PySem PySem.Spec PyProof.Rows L2
/-! ### sets of tuples of texts and ints: the small questions (begun) -/
section
variable {P : Program} {w : World} {A : Around} {E : Value → Shared → Prop} {s : Shared}
/-- a loop in which no turn changes anything -/
theorem quiet_loop {α β : Type} {f : α → β → Sem (ForInStep β)} {Q : β → Shared → Prop} {b : β} {l : List α}
    (hf : ∀ x ∈ l, ∀ R : ForInStep β → Shared → Prop, R (.yield b) s → wpAny (model P w) A (f x b) R E s) (q : Q b s) : wpAny (model P w) A (forIn l b f) Q E s :=
  wpAny_forIn_list f (fun r b' s' => (b' = b ∧ s' = s) ∧ r ⊆ l) Q
    (fun x r b' s' ⟨⟨e1, e2⟩, h⟩ => by
      subst e1 e2
      exact hf x (h List.mem_cons_self) _ ⟨⟨rfl, rfl⟩, fun y hy => h (List.mem_cons_of_mem _ hy)⟩)
    (fun b' s' ⟨⟨e1, e2⟩, _⟩ => by subst e1 e2; exact q) l b ⟨⟨rfl, rfl⟩, fun _ h => h⟩
abbrev MT (P : Program) (w : World) (h : Heap) (k : List Key) (b : Addr) : Prop := IsTupleKey (mixKind P w) h k b
/-- a text or an int: no class statement, and its hash's kind is known at once -/
def Easy (v : Value) : Prop := ∀ n, ofAClassStatement n v = pure false ∧ ∃ c, hashByValue n v = pure c
theorem easy_items {k : List Key} {vs : List Value} (h : ItemsAre (mixKind P w) k vs) : ∀ v ∈ vs, Easy v := by
  induction h with
  | nil => exact fun v hv => nomatch hv
  | cons h1 _ ih =>
    intro v hv
    cases hv with
    | tail _ hv => exact ih v hv
    | head =>
      intro n
      rcases keyIs_shape h1 with ⟨i, t, _, rfl⟩ | ⟨x, t, _, rfl⟩
      · cases n <;> exact ⟨rfl, true, rfl⟩
      · cases n <;> exact ⟨rfl, false, rfl⟩
theorem mt_class {k : List Key} {b : Addr} {Q : Bool → Shared → Prop} (hk : MT P w s.heap k b) (q : Q false s) : wpAny (model P w) A (ofAClassStatement 8 (.ref b)) Q E s := by
  have ty := hk.typeIs
  obtain ⟨o, items, n, ho, _, hd, hi⟩ := hk
  unfold ofAClassStatement
  refine wpAny_bind (wpAny_typeOf ty ?_)
  simp only [show (("tuple" : String) == "tuple") = true by decide, if_true]
  refine wpAny_bind (wpAny_pure ?_)
  simp only [Bool.not_true, Bool.false_eq_true, if_false]
  refine wpAny_bind (wpAny_seqItems ho hd (wpAny_bind ?_))
  simp only [← Array.forIn_toList]
  refine quiet_loop (fun v hv R r => ?_) ?_
  · rw [(easy_items hi v hv 7).1]
    exact wpAny_bind (wpAny_pure (wpAny_pure r))
  · exact wpAny_pure q
/-- how a tuple's hash comes about: some answer, and nothing changes -/
theorem mt_hash_kind {k : List Key} {b : Addr} {Q : Bool → Shared → Prop} (hk : MT P w s.heap k b) (q : ∀ c, Q c s) : wpAny (model P w) A (hashByValue 8 (.ref b)) Q E s := by
  have ty := hk.typeIs
  obtain ⟨o, items, n, ho, _, hd, hi⟩ := hk
  unfold hashByValue
  refine wpAny_bind (wpAny_specialOf ty F.slot_tuple_hash.lookup ?_)
  refine wpAny_bind (wpAny_seqItems ho hd (wpAny_bind ?_))
  have hE := easy_items hi
  show wpAny (model P w) A (forIn items _ _) _ _ _
  rw [← Array.forIn_toList]
  refine wpAny_forIn_list _ (fun r b' s' => (b' = (none, ()) ∧ s' = s) ∧ r ⊆ items.toList) _ (fun v r b' s' z => ?_) (fun b' s' z => ?_) _ _ ⟨⟨rfl, rfl⟩, fun _ h => h⟩
  · obtain ⟨⟨rfl, rfl⟩, hs⟩ := z
    obtain ⟨c, ec⟩ := (hE v (hs List.mem_cons_self) 7).2
    rw [ec]
    refine wpAny_bind (wpAny_pure ?_)
    cases c with
    | true => exact wpAny_pure ⟨⟨rfl, rfl⟩, fun y hy => hs (List.mem_cons_of_mem _ hy)⟩
    | false => exact wpAny_pure (wpAny_pure (q _))
  · obtain ⟨⟨rfl, rfl⟩, _⟩ := z
    exact wpAny_pure (q _)
/-- among tuples, nobody sees the search -/
theorem mt_unseen {k : List Key} {b : Addr} {ys : List Value} {Q : Bool → Shared → Prop} (hk : MT P w s.heap k b) (hy : ∀ y ∈ ys, ∃ k' c, y = .ref c ∧ MT P w s.heap k' c) (q : Q false s) : wpAny (model P w) A (searchCouldBeSeen (.ref b) ys) Q E s := by
  unfold searchCouldBeSeen
  refine wpAny_bind (quiet_loop (fun y hm R r => ?_) (wpAny_pure q))
  obtain ⟨k', c, rfl, hc⟩ := hy y hm
  dsimp only
  split
  · exact wpAny_pure r
  · refine wpAny_bind (wpAny_eqIsQuiet_tuple hk ?_)
    refine wpAny_bind (wpAny_eqIsQuiet_tuple hc ?_)
    refine wpAny_bind (mt_class hk ?_)
    exact wpAny_bind (mt_class hc (wpAny_pure r))
/-! ### the set, and the search in it -/
def mh (P : Program) (w : World) (k : List Key) : Int := tupleKeyHash (mixKind P w) k
def entX (P : Program) (w : World) (q : Addr × List Key) : Int × Value := (mh P w q.2, .ref q.1)
structure SX (P : Program) (w : World) (h : Heap) (a : Addr) (L : List (Addr × List Key)) (es : Array (Int × Value)) (ep : Nat) (t : SetTable) : Prop where
  here : ∃ o, h.get? a = some o ∧ o.ExactSet ∧ o.data = .set es ep t
  ents : es.toList = L.map (entX P w)
  tab : TabOk t (L.map fun q => mh P w q.2)
  once : (L.map Prod.snd).Nodup
  keys : ∀ q ∈ L, MT P w h q.2 q.1
  led : w.params.followText "set-order" = true ∨ t.led = true
  room : L.length * 5 < t.mask * 3
  few : L.length < 64
theorem nth_dummy (m : Nat) : ∀ (n : Nat) (p : SetTable.Probe), (nth m p n).dummy = p.dummy
  | 0, _ => rfl
  | n + 1, p => (nth_dummy m n (adv m p)).trans (by unfold adv; split <;> rfl)
variable {a : Addr} {L : List (Addr × List Key)} {es : Array (Int × Value)} {ep : Nat} {t : SetTable}
theorem SX.size (R : SX P w s.heap a L es ep t) : es.size = L.length := by
  rw [← Array.length_toList, R.ents, List.length_map]
theorem SX.places (R : SX P w s.heap a L es ep t) : t.place.size = L.length := by rw [R.tab.sz, List.length_map]
theorem SX.fit (R : SX P w s.heap a L es ep t) : t.fits es.size = true := by
  have := R.room
  simp only [SetTable.fits, SetTable.fill, R.tab.dm, R.places, R.size, Bool.and_eq_true, beq_self_eq_true, true_and, decide_eq_true_eq]
  show L.length + 0 ≤ t.mask
  omega
theorem SX.at (R : SX P w s.heap a L es ep t) {i : Nat} {q : Addr × List Key} (h : L[i]? = some q) : es[i]? = some (entX P w q) := by
  rw [← Array.getElem?_toList, R.ents, List.getElem?_map, h]
  rfl
theorem SX.firm (R : SX P w s.heap a L es ep t) : ¬ t.gaveWay = true := by
  rw [SetTable.gaveWay, mask_odd R.tab.mok]
  decide
theorem seek (R : SX P w s.heap a L es ep t) {x : Addr} {k : List Key} (hx : MT P w s.heap k x) (hu : A.units < cLine) {Q : SetFound → Shared → Prop} (yes : k ∈ L.map Prod.snd → Q (.there none) s) :
    ∀ (f d : Nat) (st : Option SetTable.Probe) (p : SetTable.Probe), st.getD (t.probeStart (mh P w k)) = p → p.dummy = none → d < 10 * SetTable.turns t.mask → d < f → (∀ c, c < d → (nth t.mask p c).j ∈ t.place.toList) → (nth t.mask p d).j ∉ t.place.toList →
      (k ∈ L.map Prod.snd → ∃ (c i : Nat) (q : Addr × List Key), c < d ∧ t.place.toList[i]? = some (nth t.mask p c).j ∧ L[i]? = some q ∧ q.2 = k) → (k ∉ L.map Prod.snd → Q (.free (nth t.mask p d).j false) s) →
      wpAny (model P w) A (setSearchFrom a (.ref x) (mh P w k) true f st) Q E s := by
  intro f
  induction f with
  | zero => exact fun d st p _ _ _ h => absurd h (Nat.not_lt_zero _)
  | succ f ih =>
    intro d st p ep0 dm dt df inn out there no
    obtain ⟨o, ho, _, hd⟩ := R.here
    rw [setSearchFrom_succ]
    refine wpAny_bind (wpAny_setState_of ho hd R.fit ?_)
    dsimp only
    rw [if_neg R.firm]
    refine wpAny_bind (wpAny_pure ?_)
    have hat : ∀ (i : Nat) (q : Addr × List Key), L[i]? = some q → (fun i => (es[i]?.map (·.1)).getD 0) i = mh P w q.2 := fun i q h => by
      show (es[i]?.map (·.1)).getD 0 = _
      rw [R.at h]
      rfl
    rcases go_spec t R.tab.ris R.tab.dm (fun i => (es[i]?.map (·.1)).getD 0) (mh P w k) (10 * SetTable.turns t.mask) d p dm dt inn out with ⟨c, i, hc, hi, hh, hno, hg⟩ | ⟨hno, hg⟩
    · have hp : t.probe (fun i => (es[i]?.map (·.1)).getD 0) (mh P w k) (st.getD (t.probeStart (mh P w k))) = some (.candidate (nth t.mask p c).j i (nth t.mask p (c + 1))) := by rw [ep0]; exact hg
      rw [hp]
      dsimp only
      -- the entry there
      have il : i < L.length := by rw [← R.places, ← Array.length_toList]; exact (List.getElem?_eq_some_iff.mp hi).1
      obtain ⟨q, hq⟩ : ∃ q, L[i]? = some q := ⟨_, List.getElem?_eq_getElem il⟩
      have kq := R.keys q (List.mem_of_getElem? hq)
      have live := slot_live R.tab.ris hi
      have look : wpAny (model P w) A (searchRest a (.ref x) (mh P w k) true f es t (nth t.mask p c).j i (nth t.mask p (c + 1))) Q E s := by
        unfold searchRest
        rw [R.at hq]
        refine wpAny_bind (wpAny_holding (wpAny_eqBool_tuple hu kq hx (wpAny_bind (wpAny_setState_of ho hd R.fit ?_))))
        dsimp only
        by_cases e : q.2 = k
        · rw [decide_eq_true e]
          exact wpAny_pure (yes (List.mem_map.mpr ⟨q, List.mem_of_getElem? hq, e⟩))
        · rw [decide_eq_false e]
          simp only [Bool.and_false, Bool.false_eq_true, if_false]
          refine wpAny_bind (wpAny_pure ?_)
          simp only [sameMem, if_true, live, R.at hq]
          refine wpAny_bind (wpAny_isSame_ref_self (wpAny_bind (wpAny_pure ?_)))
          simp only [if_true]
          have sh : ∀ n, nth t.mask (nth t.mask p (c + 1)) n = nth t.mask p (c + 1 + n) := fun n => (nth_add t.mask (c + 1) p n).symm
          have e1 : nth t.mask (nth t.mask p (c + 1)) (d - (c + 1)) = nth t.mask p d := by rw [sh, show c + 1 + (d - (c + 1)) = d by omega]
          refine ih (d - (c + 1)) _ (nth t.mask p (c + 1)) rfl ((nth_dummy _ _ _).trans dm) (by omega) (by omega) (fun n hn => by rw [sh]; exact inn _ (by omega)) (by rw [e1]; exact out) (fun hm => ?_) (by rw [e1]; exact no)
          obtain ⟨c', i', q', h1, h2, h3, h4⟩ := there hm
          refine ⟨c' - (c + 1), i', q', ?_, ?_, h3, h4⟩ <;> rcases Nat.lt_trichotomy c' c with g | g | g
          · exact absurd ((hat i' q' h3).trans (by rw [h4])) (hno c' i' g h2)
          · exfalso
            rw [g] at h2
            have e2 := (slot_live R.tab.ris h2).symm.trans live
            injection e2 with e2
            rw [e2, hq] at h3
            exact e ((congrArg Prod.snd (Option.some.inj h3)).trans h4)
          · omega
          · exact absurd ((hat i' q' h3).trans (by rw [h4])) (hno c' i' g h2)
          · exfalso
            rw [g] at h2
            have e2 := (slot_live R.tab.ris h2).symm.trans live
            injection e2 with e2
            rw [e2, hq] at h3
            exact e ((congrArg Prod.snd (Option.some.inj h3)).trans h4)
          · rw [sh, show c + 1 + (c' - (c + 1)) = c' by omega]
            exact h2
      cases el : t.led with
      | true => exact look
      | false =>
        refine wpAny_bind (mt_unseen hx (fun y hy => ?_) look)
        obtain ⟨z, hz, rfl⟩ := List.mem_map.mp hy
        have hz2 : z ∈ es.toList := by
          rw [Array.mem_toList_iff] at hz ⊢
          exact (Array.mem_filter.mp hz).1
        rw [R.ents] at hz2
        obtain ⟨r, hr, rfl⟩ := List.mem_map.mp hz2
        exact ⟨r.2, r.1, rfl, R.keys r hr⟩
    · have hp : t.probe (fun i => (es[i]?.map (·.1)).getD 0) (mh P w k) (st.getD (t.probeStart (mh P w k))) = some (.empty (nth t.mask p d).j none) := by rw [ep0]; exact hg
      rw [hp]
      refine wpAny_pure (no fun hm => ?_)
      obtain ⟨c, i, q, h1, h2, h3, h4⟩ := there hm
      exact hno c i h1 h2 ((hat i q h3).trans (by rw [h4]))
theorem seek_add (R : SX P w s.heap a L es ep t) {x : Addr} {k : List Key} (hx : MT P w s.heap k x) (hu : A.units < cLine) {Q : SetFound → Shared → Prop} (yes : k ∈ L.map Prod.snd → Q (.there none) s)
    (no : ∀ K, k ∉ L.map Prod.snd → way t.mask (mh P w k) K ∉ t.place.toList → (∀ c, c < K → way t.mask (mh P w k) c ∈ t.place.toList) → Q (.free (way t.mask (mh P w k) K) false) s) : wpAny (model P w) A (setSearch a (.ref x) (mh P w k) true) Q E s := by
  have rm := R.room
  obtain ⟨K, k1, k2, k3⟩ := R.tab.first (by rw [List.length_map]; omega) (mh P w k)
  have k4 : K < 100000 := by
    refine Nat.lt_trans k1 ?_
    rw [SetTable.turns]
    rcases R.tab.mok with m | m | m <;> omega
  refine seek R hx hu yes 100000 K none (t.probeStart (mh P w k)) rfl rfl k1 k4 k3 k2 (fun hm => ?_) fun hm => no K hm k2 k3
  obtain ⟨q, hq, e⟩ := List.mem_map.mp hm
  obtain ⟨i, hi⟩ := List.getElem?_of_mem hq
  have hl : i < t.place.toList.length := by rw [Array.length_toList, R.places]; exact (List.getElem?_eq_some_iff.mp hi).1
  have hj := List.getElem?_eq_getElem hl
  obtain ⟨c, c1, c2⟩ := R.tab.before k2 (i := i) (h := mh P w k) (by rw [List.getElem?_map, hi, ← e]; rfl) hj
  exact ⟨c, i, q, c1, hj.trans (congrArg some c2.symm), hi, e⟩
/-! ### the table laid anew -/
theorem fm_range {α : Type} : ∀ l : List α, (List.range l.length).filterMap (fun i => l[i]?) = l
  | [] => rfl
  | x :: l => by
    rw [List.length_cons, List.range_succ_eq_map, List.filterMap_cons_some (f := fun i => (x :: l)[i]?) (a := 0) (b := x) rfl, List.filterMap_map]
    exact congrArg (x :: ·) (fm_range l)
theorem fm_congr {α β : Type} {f g : α → Option β} : ∀ {l : List α}, (∀ x ∈ l, f x = g x) → l.filterMap f = l.filterMap g
  | [], _ => rfl
  | x :: l, h => by rw [List.filterMap_cons, List.filterMap_cons, h x List.mem_cons_self, fm_congr fun y hy => h y (List.mem_cons_of_mem _ hy)]
theorem new_order {order : Array Nat} (he : es.toList = L.map (entX P w)) (hp : order.toList.Perm (List.range L.length)) :
    ∃ L' : List (Addr × List Key), (order.filterMap (es[·]?)).toList = L'.map (entX P w) ∧ L'.Perm L ∧ (L'.map fun q => mh P w q.2) = order.toList.map fun i => (es.map (·.1)).getD i 0 := by
  have hi : ∀ i : Nat, es[i]? = (L[i]?).map (entX P w) := fun i => by rw [← Array.getElem?_toList, he, List.getElem?_map]
  refine ⟨order.toList.filterMap fun i => L[i]?, ?_, ?_, ?_⟩
  · rw [Array.toList_filterMap, List.map_filterMap]
    exact congrFun (congrArg _ (funext hi)) _
  · have := hp.filterMap fun i => L[i]?
    rw [fm_range] at this
    exact this
  · rw [List.map_filterMap, ← List.filterMap_eq_map]
    refine fm_congr fun i h => ?_
    have hl : i < L.length := List.mem_range.mp (hp.mem_iff.mp h)
    rw [List.getElem?_eq_getElem hl]
    show some _ = some _
    congr 1
    show mh P w L[i].2 = (es.map (·.1)).getD i 0
    rw [Array.getD_eq_getD_getElem?, Array.getElem?_map, hi, List.getElem?_eq_getElem hl]
    rfl
theorem mt_but {h h' : Heap} {k : List Key} {b : Addr} {o : Obj} (hb : MT P w h k b) (ho : h.get? a = some o) (hd : o.data = .set es ep t) (hs : Heap.SameBut a h h') : MT P w h' k b := by
  obtain ⟨o', its, n, g1, g2, g3, g4⟩ := hb
  refine ⟨o', its, n, ?_, g2, g3, g4⟩
  rw [hs.2 b fun e => ?_, g1]
  rw [e, ho] at g1
  cases g1
  rw [hd] at g3
  cases g3
theorem relayX {o : Obj} (ho : s.heap.get? a = some o) (hex : o.ExactSet) (hd : o.data = .set es ep t) (he : es.toList = L.map (entX P w)) (hpl : t.place.size = L.length) (hdm : t.dummies = #[]) (hfl : L.length ≤ t.mask)
    (once : (L.map Prod.snd).Nodup) (keys : ∀ q ∈ L, MT P w s.heap q.2 q.1) (led : w.params.followText "set-order" = true ∨ t.led = true) (few : L.length < 64) {wanted M : Nat}
    (h1 : SetTable.sizeAbove wanted - 1 = M) (h2 : MaskOk M) (h3 : SetTable.sizeAbove wanted ≤ 128) (h4 : L.length * 5 < M * 3) {Q : Unit → Shared → Prop}
    (q : ∀ h' L' es' ep' t', Heap.SameBut a s.heap h' → SX P w h' a L' es' ep' t' → L'.Perm L → Q () { s with heap := h' }) : wpAny (model P w) A (setRelay a wanted) Q E s := by
  have hsz : es.size = L.length := by rw [← Array.length_toList, he, List.length_map]
  have fit : t.fits es.size = true := by
    simp only [SetTable.fits, SetTable.fill, hdm, hpl, hsz, Bool.and_eq_true, beq_self_eq_true, true_and, decide_eq_true_eq]
    show L.length + 0 ≤ t.mask
    omega
  obtain ⟨t', order, r1, r2, r3, r4, r5, _, _⟩ := relaid_ok t (hs := es.map (·.1)) (wanted := wanted) h1 h2 (by rw [Array.size_map, hsz]; omega)
  rw [Array.size_map, hsz] at r2
  obtain ⟨L', n1, n2, n3⟩ := new_order he r2
  have hs' : (order.filterMap (es[·]?)).size = L.length := by rw [← Array.length_toList, n1, List.length_map, n2.length_eq]
  rw [setRelay_eq]
  refine wpAny_bind (wpAny_setState_of ho hd fit ?_)
  dsimp only
  rw [if_neg (by rw [sizeLine_eq]; omega)]
  refine wpAny_bind ?_
  rw [r1]
  dsimp only
  rw [if_neg (by rw [hs', hsz]; simp)]
  refine wpAny_pure ?_
  have sb : Heap.SameBut a s.heap (s.heap.update a (Obj.putSet (order.filterMap (es[·]?)) t')) := Heap.SameBut.update ..
  refine wpAny_storeSet_of ho hd (q _ L' _ (ep + 1) t' sb ⟨⟨_, store_at ho hd, ⟨hex.1, hex.2.1, hex.2.2⟩, rfl⟩, n1, by rw [n3]; exact r3, (n2.map _).nodup_iff.mpr once, fun p hp => mt_but (keys p (n2.mem_iff.mp hp)) ho hd sb, by rw [r5]; exact led, by rw [n2.length_eq, r4]; exact h4, by rw [n2.length_eq]; exact few⟩ n2) (by rw [hs', sizeLine_eq]; omega)
/-! ### adding -/
theorem ins_perm {α : Type} (l : List α) (n : Nat) (x : α) : (l.take n ++ x :: l.drop n).Perm (x :: l) := by
  have := List.perm_middle (a := x) (l₁ := l.take n) (l₂ := l.drop n)
  rwa [List.take_append_drop] at this
theorem addX (R : SX P w s.heap a L es ep t) {x : Addr} {k : List Key} (hx : MT P w s.heap k x) (hu : A.units < cLine) (more : L.length + 1 < 64) {Q : Bool → Shared → Prop}
    (old : k ∈ L.map Prod.snd → ∀ b, Q b s)
    (new : k ∉ L.map Prod.snd → ∀ b h' L' es' ep' t', Heap.SameBut a s.heap h' → SX P w h' a L' es' ep' t' → L'.Perm ((x, k) :: L) → Q b { s with heap := h' }) :
    wpAny (model P w) A (setAddHashed a (.ref x) (mh P w k)) Q E s := by
  obtain ⟨o, ho, hex, hd⟩ := R.here
  have rm := R.room
  unfold setAddHashed
  refine wpAny_holding ?_
  rw [show (100000 : Nat) = 99999 + 1 from rfl, setAddHashedIn_succ]
  refine wpAny_bind (wpAny_setState_of ho hd R.fit ?_)
  dsimp only
  rw [if_neg (by simp [byScan, Value.scannable])]
  refine wpAny_bind (seek_add R hx hu (fun hm => wpAny_pure (old hm _)) fun K hm k2 k3 => ?_)
  dsimp only
  refine wpAny_bind (wpAny_setState_of ho hd R.fit ?_)
  dsimp only
  obtain ⟨p1, p2, p3, p4, p5, _, _, _, p9⟩ := R.tab.put k2 k3
  generalize t.put (way t.mask (mh P w k) K) = pt at p1 p3 p4 p5 p9 ⊢
  obtain ⟨t1, n⟩ := pt
  dsimp only at p1 p3 p4 p5 p9 ⊢
  subst p1
  generalize SetTable.below t.place (way t.mask (mh P w k) K) = n at p2 p3 ⊢
  -- the tail, whichever the hash's kind is
  have tail : ∀ c : Bool, wpAny (model P w) A (do
      storeSet a (SetTable.insertAt es n (mh P w k, Value.ref x)) (if c = true then t1 else { t1 with plain := false })
      if (!false && (if c = true then t1 else { t1 with plain := false }).tooFull) = true then do
        setRelay a (SetTable.grown (es.size + 1))
        pure true
      else pure true) Q E s := fun c => by
    have nt : TabOk (if c = true then t1 else { t1 with plain := false }) ((L.map fun q => mh P w q.2).take n ++ mh P w k :: (L.map fun q => mh P w q.2).drop n) ∧ (if c = true then t1 else { t1 with plain := false }).mask = t.mask ∧ (if c = true then t1 else { t1 with plain := false }).led = t.led ∧ (if c = true then t1 else { t1 with plain := false }).fill = L.length + 1 := by
      rw [List.length_map] at p9
      cases c with
      | true => exact ⟨p3, p4, p5, p9⟩
      | false => exact ⟨⟨p3.ris, p3.dm, p3.sz, p3.mok, p3.bd, p3.reach⟩, p4, p5, p9⟩
    generalize (if c = true then t1 else { t1 with plain := false }) = t2 at nt ⊢
    obtain ⟨n1, n2, n3, n4⟩ := nt
    have pm := ins_perm L n (x, k)
    have he : (SetTable.insertAt es n (mh P w k, Value.ref x)).toList = (L.take n ++ (x, k) :: L.drop n).map (entX P w) := by
      rw [SetTable.toList_insertAt, R.ents, List.map_append, List.map_cons, List.map_take, List.map_drop]
      rfl
    have hh : (L.take n ++ (x, k) :: L.drop n).map (fun q => mh P w q.2) = (L.map fun q => mh P w q.2).take n ++ mh P w k :: (L.map fun q => mh P w q.2).drop n := by
      rw [List.map_append, List.map_cons, List.map_take, List.map_drop]
    rw [← hh] at n1
    have hl : (L.take n ++ (x, k) :: L.drop n).length = L.length + 1 := pm.length_eq
    have once : ((L.take n ++ (x, k) :: L.drop n).map Prod.snd).Nodup := (pm.map Prod.snd).nodup_iff.mpr (List.nodup_cons.mpr ⟨hm, R.once⟩)
    have hz : (SetTable.insertAt es n (mh P w k, Value.ref x)).size = L.length + 1 := by rw [← Array.length_toList, he, List.length_map, hl]
    generalize SetTable.insertAt es n (mh P w k, Value.ref x) = es1 at he hz ⊢
    generalize L.take n ++ (x, k) :: L.drop n = L1 at pm he hl once n1
    refine wpAny_bind (wpAny_storeSet_of ho hd ?_ (by rw [hz, sizeLine_eq]; omega))
    have sb : Heap.SameBut a s.heap (s.heap.update a (Obj.putSet es1 t2)) := Heap.SameBut.update ..
    have ho1 := store_at (es' := es1) (t' := t2) ho hd
    generalize s.heap.update a (Obj.putSet es1 t2) = h1 at sb ho1 ⊢
    have keys : ∀ q ∈ L1, MT P w h1 q.2 q.1 := fun q hq => by
      rcases List.mem_cons.mp (pm.mem_iff.mp hq) with e | hq
      · subst e
        exact mt_but hx ho hd sb
      · exact mt_but (R.keys q hq) ho hd sb
    have led : w.params.followText "set-order" = true ∨ t2.led = true := by rw [n3]; exact R.led
    by_cases hf : t2.tooFull = true
    · rw [if_pos (by rw [hf]; rfl)]
      have full : (L.length + 1) * 5 ≥ t.mask * 3 := by
        have g := hf
        rw [SetTable.tooFull, decide_eq_true_eq, n4, n2] at g
        exact g
      have pl : t2.place.size = L1.length := by rw [n1.sz, List.length_map]
      rw [R.size]
      have go : ∀ M, SetTable.sizeAbove (SetTable.grown (L.length + 1)) - 1 = M → MaskOk M → SetTable.sizeAbove (SetTable.grown (L.length + 1)) ≤ 128 → (L.length + 1) * 5 < M * 3 → L.length + 1 ≤ t.mask →
          wpAny (model P w) A (do setRelay a (SetTable.grown (L.length + 1)); pure true) Q E { s with heap := h1 } := fun M g1 g2 g3 g4 g5 =>
        wpAny_bind (relayX (s := { s with heap := h1 }) ho1 ⟨hex.1, hex.2.1, hex.2.2⟩ rfl he pl n1.dm (by rw [hl, n2]; exact g5) once keys led (by rw [hl]; exact more) g1 g2 g3 (by rw [hl]; exact g4) fun h2 L2 es2 ep2 t2' sb2 R2 pm2 => wpAny_pure (new hm true h2 L2 es2 ep2 t2' (sb.trans sb2) R2 (pm2.trans pm)))
      rcases R.tab.mok with m | m | m <;> rw [m] at full rm
      · have e : L.length = 4 := by omega
        exact go 31 (by rw [e]; decide +kernel) (.inr (.inl rfl)) (by rw [e]; decide +kernel) (by omega) (by omega)
      · have e : L.length = 18 := by omega
        exact go 127 (by rw [e]; decide +kernel) (.inr (.inr rfl)) (by rw [e]; decide +kernel) (by omega) (by omega)
      · omega
    · rw [if_neg (by rw [(Bool.not_eq_true _).mp hf]; decide)]
      refine wpAny_pure (new hm true h1 L1 es1 (ep + 1) t2 sb ⟨⟨_, ho1, ⟨hex.1, hex.2.1, hex.2.2⟩, rfl⟩, he, n1, once, keys, led, ?_, by rw [hl]; exact more⟩ pm)
      have g := hf
      rw [SetTable.tooFull, decide_eq_true_eq, n4] at g
      rw [hl]
      omega
  split
  · exact wpAny_bind (mt_hash_kind hx fun c => tail c)
  · exact wpAny_bind (wpAny_pure (tail true))
/-! ### a whole list of them -/
def Stays (h0 : Heap) (s : Shared) : Prop := ∀ b o, h0.get? b = some o → s.heap.get? b = some o
structure Seen (ks : List (Addr × List Key)) (i : Nat) (L : List (Addr × List Key)) : Prop where
  sub : ∀ q ∈ L, q ∈ ks
  all : ∀ j p, j < i → ks[j]? = some p → p.2 ∈ L.map Prod.snd
  len : L.length ≤ i
theorem Seen.next {ks L : List (Addr × List Key)} {i : Nat} {p : Addr × List Key} (g : Seen ks i L) (h : ks[i]? = some p) (m : p.2 ∈ L.map Prod.snd) : Seen ks (i + 1) L :=
  ⟨g.sub, fun j q hj e => by
    rcases Nat.lt_succ_iff_lt_or_eq.mp hj with l | rfl
    · exact g.all j q l e
    · rw [h] at e
      cases e
      exact m, Nat.le_succ_of_le g.len⟩
theorem Seen.put {ks L L' : List (Addr × List Key)} {i : Nat} {p : Addr × List Key} (g : Seen ks i L) (h : ks[i]? = some p) (pm : L'.Perm (p :: L)) : Seen ks (i + 1) L' := by
  have mm : ∀ k, k ∈ L'.map Prod.snd ↔ k = p.2 ∨ k ∈ L.map Prod.snd := fun k => by rw [(pm.map Prod.snd).mem_iff, List.map_cons, List.mem_cons]
  refine ⟨fun q hq => ?_, fun j q hj e => (mm _).mpr ?_, by rw [pm.length_eq]; exact Nat.succ_le_succ g.len⟩
  · rcases List.mem_cons.mp (pm.mem_iff.mp hq) with rfl | hq
    · exact List.mem_of_getElem? h
    · exact g.sub q hq
  · rcases Nat.lt_succ_iff_lt_or_eq.mp hj with l | rfl
    · exact .inr (g.all j q l e)
    · rw [h] at e
      cases e
      exact .inl rfl
theorem mt_stays {h0 : Heap} {s' : Shared} {k : List Key} {b : Addr} (x : MT P w h0 k b) (z : Stays h0 s') : MT P w s'.heap k b := by
  obtain ⟨o, its, n, g, r⟩ := x
  exact ⟨o, its, n, z b o g, r⟩
theorem SX.over {h' : Heap} {h : Heap} (R : SX P w h a L es ep t) (z : ∀ o, h.get? a = some o → h'.get? a = some o) (y : ∀ q ∈ L, MT P w h' q.2 q.1) : SX P w h' a L es ep t := by
  obtain ⟨o, ho, r⟩ := R.here
  exact { R with here := ⟨o, z o ho, r⟩, keys := y }
theorem loopX {I S : Addr} {fp wr : List Addr} {G : Array GenState → Array GenState → Prop} {n : Nat} {Pv : Nat → Value → Prop} {St : Nat → Shared → Prop} {Fn : Result → Shared → Prop} (W : WalksS P w A.in1 I fp wr G n Pv St) (hS : S ∉ fp)
    {ks : List (Addr × List Key)} (hn : n = ks.length) (few : ks.length < 64) (val : ∀ i v, Pv i v → ∃ p, ks[i]? = some p ∧ v = .ref p.1) {h0 : Heap} (hk : ∀ p ∈ ks, MT P w h0 p.2 p.1) (fresh : h0.get? S = none) (fresh' : ∀ b ∈ wr, h0.get? b = none) (hu : A.in1.units < cLine) :
    ∀ (m i : Nat) (s : Shared), i + m = n → St i s → Stays h0 s → (∃ L es ep t, SX P w s.heap S L es ep t ∧ Seen ks i L) →
      (∀ s' L es ep t, Moved (S :: wr) G s s' → SX P w s'.heap S L es ep t → Seen ks n L → Stays h0 s' → Fn (.ok (.ret .none)) s') → codeAny (model P w) A (.builtin "set.update.loop" ⟨[.ref S, .ref I], []⟩) Fn s := by
  have hw : S ∉ wr := fun h => hS (W.sub S h)
  have wide : ∀ {s s' : Shared}, Moved wr G s s' → Moved (S :: wr) G s s' := fun m => m.mono fun b hb => List.mem_cons_of_mem S hb
  have stay : ∀ {s s' : Shared}, Moved wr G s s' → Stays h0 s → Stays h0 s' := fun {s s'} m z b o e => m.heap b o (fun hb => nomatch (fresh' b hb).symm.trans e) (z b o e)
  intro m
  induction m with
  | zero =>
    rintro i s rfl st z ⟨L, es, ep, t, R, g⟩ fin
    refine codeAny_builtin F.entry_set_update_loop ?_
    rw [Around.under_plainId F.plain_set_update_loop]
    refine wpAny_bind (W.done s _ _ st fun s' mv => ?_)
    have z' := stay mv z
    exact wpAny_pure (fin s' L es ep t (wide mv) (R.over (fun o e => mv.heap S o hw e) fun q hq => mt_stays (hk q (g.sub q hq)) z') g z')
  | succ m ih =>
    rintro i s e st z ⟨L, es, ep, t, R, g⟩ fin
    refine codeAny_builtin F.entry_set_update_loop ?_
    rw [Around.under_plainId F.plain_set_update_loop]
    refine wpAny_bind (W.item i s _ _ (by omega) st fun v s' pv st' mv => ?_)
    obtain ⟨p, hp, rfl⟩ := val i v pv
    have z' := stay mv z
    have R' := R.over (h' := s'.heap) (fun o e => mv.heap S o hw e) fun q hq => mt_stays (hk q (g.sub q hq)) z'
    have hx : MT P w s'.heap p.2 p.1 := mt_stays (hk p (List.mem_of_getElem? hp)) z'
    dsimp only
    refine wpAny_bind (wpAny_holding ?_)
    unfold setAdd
    refine wpAny_holding (wpAny_bind (wpAny_pyHash_tuple hu hx ?_))
    -- what follows, with the set as it is then
    have go : ∀ h' L' es' ep' t', Heap.SameBut S s'.heap h' → SX P w h' S L' es' ep' t' → Seen ks (i + 1) L' →
        codeAny (model P w) A (.builtin "set.update.loop" ⟨[.ref S, .ref I], []⟩) Fn { s' with heap := h', toks := s'.toks + (p.2.length + 1) } := fun h' L' es' ep' t' sb R2 g2 => by
      have z2 : Stays h0 { s' with heap := h', toks := s'.toks + (p.2.length + 1) } := fun b o e => (sb.2 b fun e' => nomatch fresh.symm.trans ((congrArg h0.get? e').symm.trans e)).trans (z' b o e)
      refine ih (i + 1) _ (by omega) (W.frame _ s' _ _ st' (Nat.le_add_right _ _) fun b hb o e => (sb.2 b fun e' => hS (e' ▸ hb)).trans e) z2 ⟨L', es', ep', t', R2, g2⟩ fun s'' L3 es3 ep3 t3 mv2 R3 g3 z3 => fin s'' L3 es3 ep3 t3 ?_ R3 g3 z3
      refine Moved.trans W.gtrans ((wide mv).then_heap (Nat.le_add_right _ _) fun b o hb e => ?_) mv2
      exact (sb.2 b fun e' => hb (by rw [e']; exact List.mem_cons_self)).trans e
    refine addX (s := { s' with toks := s'.toks + (p.2.length + 1) }) R' hx hu (by have := g.len; omega) (fun hm b => ?_) fun hm b h' L' es' ep' t' sb R2 pm => ?_
    · exact wpAny_pure ⟨plainId_quiet F.plain_set_update_loop _, go s'.heap L es ep t (Heap.SameBut.refl _ _) R' (g.next hp hm)⟩
    · exact wpAny_pure ⟨plainId_quiet F.plain_set_update_loop _, go h' L' es' ep' t' sb R2 (g.put hp pm)⟩
end
end Sb

namespace Sb
open PySem PySem.Spec PyProof.Rows L2
section
variable {P : Program} {w : World} {A : Around} {E : Value → Shared → Prop} {s : Shared}
/-! ### set(a list of tuples) -/
abbrev bareX (w : World) : Obj := { cls := .type "set", dict := none, data := .set #[] 0 (.fresh 0 0 (!w.params.followText "set-order")) }
theorem bare_ok {h : Heap} {b : Addr} (e : h.get? b = some (bareX w)) : SX P w h b [] #[] 0 (.fresh 0 0 (!w.params.followText "set-order")) := by
  refine ⟨⟨_, e, ⟨rfl, rfl, rfl⟩, rfl⟩, rfl, ⟨.nil, rfl, rfl, .inl rfl, fun _ h => (by cases h), fun _ _ _ h => (by cases h)⟩, .nil, fun _ h => (by cases h), ?_, by show 0 * 5 < 7 * 3; decide, by decide⟩
  cases c : w.params.followText "set-order" with
  | true => exact .inl rfl
  | false => exact .inr rfl
set_option maxHeartbeats 3200000 in
theorem setX_call {l : Addr} {items : Array Value} (ks : List (Addr × List Key)) {Q : Value → Shared → Prop} (hh : A.handled = none) (hl : s.heap.IsList l items) (hit : items.toList = ks.map fun p => Value.ref p.1) (hk : ∀ p ∈ ks, MT P w s.heap p.2 p.1)
    (few : ks.length < 64) (hu : A.units + 3 < cLine) (q : ∀ (h' : Heap) (tk : Nat) L es ep t, SX P w h' s.heap.objs.size L es ep t → Seen ks ks.length L → (∀ b o, s.heap.get? b = some o → h'.get? b = some o) → Q (.ref s.heap.objs.size) { s with heap := h', toks := tk }) :
    wpAny (model P w) A (call (.type "set") [.ref l]) Q E s := by
  have hsz : items.size = ks.length := by rw [← Array.length_toList, hit, List.length_map]
  obtain ⟨_, _, mro⟩ := F.called_set.mro
  have c1 := F.called_set.made
  have c2 := F.called_set.sub
  have c3 := F.called_set.notType
  have c4 := F.called_set.canCreate
  have c5 := F.typeCall_set_1 (.ref l)
  refine wpAny_call (codeAny_of_tree ?_)
  show wpAny _ _ (callAny (.type "set") _) _ _ _
  refine wpAny_pure ⟨Code.quiet_builtin _ (by decide +kernel), codeAny_builtin F.entry_type_call ?_⟩
  rw [Around.under_plain (weight_type_call_type "set" [.ref l] []) rfl]
  repeat (any_goals (first | assumption | wp_step))
  refine codeAny_mono (code_set_led1 (.ref l) (E := E) (Q₁ := fun r s1 => r = .ref s.heap.objs.size ∧ s1 = { s with heap := s.heap.push (bareX w) }) ⟨rfl, rfl⟩) fun r s1 hr => ?_
  match r, hr with
  | .error e, hr => exact hr
  | .ok (.ret obj), hr =>
    obtain ⟨rfl, rfl⟩ := hr
    have at0 : (s.heap.push (bareX w)).get? s.heap.objs.size = some (bareX w) := Heap.get?_push_size _ rfl
    have ty0 : Shared.TypeIs { s with heap := s.heap.push (bareX w) } (.ref s.heap.objs.size) "set" := ⟨_, at0, rfl⟩
    have i1 := F.called_set.init.lookup
    have i2 := F.called_set.init.bind (.ref s.heap.objs.size)
    repeat (any_goals (first | assumption | wp_step))
    refine codeAny_mono (codeAny_call_builtin (R := wants (fun r2 s2 => r2 = .none ∧ ∃ h' tk L es ep t, s2 = { s with heap := h', toks := tk } ∧ SX P w h' s.heap.objs.size L es ep t ∧ Seen ks ks.length L ∧ (∀ b o, s.heap.get? b = some o → h'.get? b = some o)) E)
      F.called_set.init.plain F.entry_set_init (check_set_init_1 ty0 ?init)) fun r2 s2 hr2 => ?_
    case init =>
      obtain ⟨ol, hol, hcl, nl, hdl⟩ := hl
      obtain ⟨ocls, odict, odata, oslots⟩ := ol
      dsimp only at hcl hdl
      subst hcl
      subst hdl
      have at1 := Heap.get?_push_of_some (bareX w) hol
      have d1 := F.sub_list_set
      have d2 := F.sub_list_frozenset
      have d3 : (Value.type "list" == Value.type "dict") = false := by decide
      have lst : (s.heap.push (bareX w)).IsList l items := ⟨_, at1, rfl, nl, rfl⟩
      unfold Builtin.«set.__init__» noKeywords Builtin.Frozenset.updateFrom
      generalize hPI : pyIter = PI
      wp_walk
      subst hPI
      refine wpAny_pyIter_list lst (wpAny_bind (wpAny_runValue ?_))
      have lt : l < s.heap.objs.size := Heap.lt_size hol
      have off : ∀ b, s.heap.objs.size ≤ b → s.heap.get? b = none := fun b hb => by
        cases g : s.heap.get? b with
        | none => rfl
        | some o => exact absurd (Heap.lt_size g) (Nat.not_lt.mpr hb)
      have ne : l ≠ (s.heap.push (bareX w)).objs.size := by
        rw [Heap.size_push]
        exact Nat.ne_of_lt (Nat.lt_succ_of_lt lt)
      refine loopX (Walks.list (show A.in1.in1.in1.handled = none by simp [hh]) _ l ne items).toS (S := s.heap.objs.size) ?sb_a hsz few ?sb_b hk (off _ (Nat.le_refl _)) ?sb_c hu items.size 0 _ (Nat.zero_add _) ⟨⟨_, Heap.get?_push_size _ rfl, rfl, rfl⟩, lst.push _⟩ (fun b o e => Heap.get?_push_of_some _ (Heap.get?_push_of_some _ e)) ⟨[], #[], 0, _, bare_ok (Heap.get?_push_of_some _ at0), ⟨nofun, fun j p h => absurd h (Nat.not_lt_zero _), Nat.le_refl 0⟩⟩ ?sb_d
      case sb_a =>
        rw [Heap.size_push]
        simp only [List.mem_cons, List.not_mem_nil, or_false, not_or]
        exact ⟨Nat.ne_of_lt (Nat.lt_succ_self _), Nat.ne_of_gt lt⟩
      case sb_b =>
        intro i v hv
        have g : items.toList[i]? = some v := by rw [Array.getElem?_toList]; exact hv
        rw [hit, List.getElem?_map] at g
        obtain ⟨p, g1, g2⟩ := Option.map_eq_some_iff.mp g
        exact ⟨p, g1, g2.symm⟩
      case sb_c =>
        intro b hb
        rw [List.mem_singleton.mp hb, Heap.size_push]
        exact off _ (Nat.le_succ _)
      case sb_d =>
        rintro ⟨h', g', d', tk', os'⟩ L es ep t mv R g z
        obtain rfl : g' = s.gens := mv.gens
        obtain rfl : d' = s.drawn := mv.drawn
        obtain rfl : os' = s.os := mv.os
        rw [hsz] at g
        refine wpAny_pure ?_
        exact wpAny_pure ⟨rfl, h', tk', L, es, ep, t, rfl, R, g, z⟩
    match r2, hr2 with
    | .error e, hr2 => exact hr2
    | .ok (.ret v), hr2 =>
      obtain ⟨rfl, h', tk, L, es, ep, t, rfl, R, g, z⟩ := hr2
      repeat (any_goals (first | assumption | wp_step))
      exact q _ _ _ _ _ _ R g z
end
end Sb

namespace Sb
open PySem PySem.Spec PyProof.Rows L2
section
variable {P : Program} {w : World} {A : Around} {E : Value → Shared → Prop} {s : Shared}
/-! ### sorted(a set of tuples) -/
def kD : Key → PyData
  | .inl i => .int i
  | .inr x => .str x
def qD (q : Addr × List Key) : PyData := .tuple (q.2.map kD)
theorem perm_back {α β : Type} {f : α → β} {l m : List β} (h : l.Perm m) : ∀ L : List α, m = L.map f → ∃ L' : List α, l = L'.map f ∧ L'.Perm L := by
  induction h with
  | nil =>
    intro L e
    exact ⟨L, e, .refl _⟩
  | cons x _ ih =>
    intro L e
    match L, e with
    | y :: L, e =>
      rw [List.map_cons] at e
      injection e with e1 e2
      obtain ⟨L', g1, g2⟩ := ih L e2
      exact ⟨y :: L', by rw [List.map_cons, ← e1, g1], g2.cons y⟩
  | swap x y l =>
    intro L e
    match L, e with
    | u :: v :: L, e =>
      rw [List.map_cons, List.map_cons] at e
      injection e with e1 e2
      injection e2 with e2 e3
      exact ⟨v :: u :: L, by rw [List.map_cons, List.map_cons, ← e1, ← e2, ← e3], .swap u v L⟩
  | trans _ _ ih1 ih2 =>
    intro L e
    obtain ⟨M, g1, g2⟩ := ih2 L e
    obtain ⟨L', g3, g4⟩ := ih1 M g1
    exact ⟨L', g3, g4.trans g2⟩
theorem mt_items {h : Heap} : ∀ {k : List Key} {vs : List Value}, ItemsAre (mixKind P w) k vs → ReadsAll h vs (k.map kD) []
  | _, _, .nil => .nil
  | _, _, .cons h1 t => by
    rcases keyIs_shape h1 with ⟨i, tk, rfl, rfl⟩ | ⟨x, tk, rfl, rfl⟩
    · exact .cons (as := []) (bs := []) (.int _ _) (mt_items t)
    · exact .cons (as := []) (bs := []) (.str _ _) (mt_items t)
theorem mt_reads {h : Heap} {k : List Key} {b : Addr} (x : MT P w h k b) : Reads h (.ref b) (.tuple (k.map kD)) [] := by
  obtain ⟨o, its, n, g1, g2, g3, g4⟩ := x
  exact .tuple g1 g2 g3 (mt_items g4)
theorem sortedX {a : Addr} {L : List (Addr × List Key)} {es : Array (Int × Value)} {ep : Nat} {t : SetTable} {Q : Value → Shared → Prop} (R : SX P w s.heap a L es ep t) (hh : A.handled = none) (hal : PySem.W.AllAlike (L.map qD)) (hk : Sortable2 (L.map qD)) (hu : ∀ q ∈ L, A.units + 2 + (qD q).depth < cLine)
    (q : ∀ s' p (out : Array Value) (c : Nat) (L1 : List (Addr × List Key)), (∀ b o, s.heap.get? b = some o → s'.heap.get? b = some o) → s'.gens = s.gens → s'.os = s.os → s.heap.objs.size ≤ p → s'.heap.get? p = some (seqObj "list" out c) →
      L1.Perm L → out.toList = (L1.mergeSort (PySem.W.dataLe false qD)).map (fun q => Value.ref q.1) → Q (.ref p) s') : wpAny (model P w) A (call (.builtin "sorted") [.ref a]) Q E s := by
  obtain ⟨o, ho, hex, hd⟩ := R.here
  have few := R.few
  refine Calls.call_function_entry kind_sorted plain_sorted entry_sorted (args_sorted1 _) ?_
  unfold Builtin.«sorted»
  refine wpAny_bind (m := checkCount "sorted" 1 1 _) (wpAny_pure (wpAny_bind ?_))
  refine collect_set (A := A.in1) hh ⟨o, ho, hex.1, hd⟩ R.fit (by rw [R.size]; exact Nat.lt_trans few (by decide)) R.tab.ris R.led fun s1 vs z1 z2 z3 z4 z5 => ?_
  have e0 : es.toList.map (·.2) = L.map fun q => Value.ref q.1 := by
    rw [R.ents, List.map_map]
    rfl
  obtain ⟨L1, rfl, pm⟩ := perm_back z5 L e0
  have mem : ∀ q ∈ L1, q ∈ L := fun q hq => pm.mem_iff.mp hq
  have al : PySem.W.AllAlike (L1.map qD) := fun d hd d' hd' => by
    obtain ⟨u, hu, rfl⟩ := List.mem_map.mp hd
    obtain ⟨v, hv, rfl⟩ := List.mem_map.mp hd'
    exact hal _ (List.mem_map_of_mem (mem u hu)) _ (List.mem_map_of_mem (mem v hv))
  have so : Sortable2 (L1.map qD) := by
    rcases hk with (h | h) | h
    · exact .inl (.inl fun d hd => by
        obtain ⟨u, hu, rfl⟩ := List.mem_map.mp hd
        exact h _ (List.mem_map_of_mem (mem u hu)))
    · exact .inl (.inr fun d hd => by
        obtain ⟨u, hu, rfl⟩ := List.mem_map.mp hd
        exact h _ (List.mem_map_of_mem (mem u hu)))
    · exact .inr fun d hd => by
        obtain ⟨u, hu, rfl⟩ := List.mem_map.mp hd
        exact h _ (List.mem_map_of_mem (mem u hu))
  have l1 : L1.length < 64 := by rw [pm.length_eq]; exact few
  refine wpAny_bind (wpAny_newList ?_ (by rw [List.length_map, sizeLine_eq]; omega))
  have hoL : (s1.heap.push (seqObj "list" (L1.map fun q => Value.ref q.1).toArray 0)).get? s1.heap.objs.size = some (seqObj "list" (L1.map fun q => Value.ref q.1).toArray 0) := Heap.get?_push_size _ rfl
  have each : ∀ M : List (Addr × List Key), (∀ q ∈ M, q ∈ L) → PySem.W.EachIs (fun v q => v = Value.ref q.1 ∧ q ∈ L) (M.map fun q => Value.ref q.1) M := fun M => by
    induction M with
    | nil => exact fun _ => .nil
    | cons u M ih => exact fun h => .cons ⟨rfl, h u List.mem_cons_self⟩ (ih fun v hv => h v (List.mem_cons_of_mem _ hv))
  refine wpAny_bind (wpAny_holding (list_sort_data2 (s := { s1 with heap := s1.heap.push (seqObj "list" (L1.map fun q => Value.ref q.1).toArray 0) }) (enc := qD) hoL (each L1 mem) ((each L1 mem).mono fun v u ⟨e, hq⟩ => ⟨[], ?sb_r⟩) al so (by rw [sizeLine_eq]; omega) (fun u hq => ?sb_u) fun out g1 g2 => ?sb_o))
  case sb_r =>
    rw [e]
    obtain ⟨o', its, n, h1, h2⟩ := R.keys u hq
    exact mt_reads (P := P) (w := w) ⟨o', its, n, PySem.W.sortingHeap_old (Nat.ne_of_lt (Heap.lt_size (z1 _ _ h1))) (Heap.get?_push_of_some _ (z1 _ _ h1)), h2⟩
  case sb_u =>
    have := hu u (mem u hq)
    show A.units + 1 + 1 + (qD u).depth < cLine
    omega
  case sb_o =>
    have ev : ∀ (M : List (Addr × List Key)) (us : List Value), PySem.W.EachIs (fun v q => v = Value.ref q.1 ∧ q ∈ L) us M → us = M.map fun q => Value.ref q.1 := fun M us h => by
      induction h with
      | nil => rfl
      | cons h1 _ ih => rw [List.map_cons, h1.1, ih]
    obtain ⟨c, hc⟩ := sortedHeap_at (vs := L1.map fun q => Value.ref q.1) (out := out.toArray) hoL
    refine wpAny_pure ⟨_, rfl, q _ s1.heap.objs.size out.toArray c L1 (fun b u e => ?_) z3 z4 z2 hc pm (ev _ _ g2)⟩
    have e1 := z1 b u e
    have lt := Heap.lt_size e1
    refine (sortedHeap_old (Nat.ne_of_lt lt) ?_).trans (Heap.get?_push_of_some _ e1)
    rw [size_push']
    exact Nat.lt_succ_of_lt lt
end
end Sb

namespace Sb
open PySem PySem.Spec PyProof.Rows L2
/-! ### the rules: set(list), sorted(set), tuples of texts and ints -/
def OutX (P : Program) (w : World) (a : Addr) (L : List (Addr × List Key)) (h : Heap) : Prop :=
  (∃ o, h.get? a = some o) ∧ (L.map Prod.snd).Nodup ∧ L.length < 64 ∧ ∃ es ep t, ∀ h' : Heap, (∀ o, h.get? a = some o → h'.get? a = some o) → (∀ q ∈ L, MT P w h' q.2 q.1) → SX P w h' a L es ep t
def setXO (P : Program) (w : World) (a : Addr) (L : List (Addr × List Key)) : HO := .ext (OutX P w a L)
theorem outX_ok {P : Program} {w : World} {H : Hp} {h : Heap} {a : Addr} {L : List (Addr × List Key)} (x : OutX P w a L h) : ObjOk P w H h a (setXO P w a L) :=
  ⟨x, x.1, fun h1 h2 y k => by
    obtain ⟨⟨o, ho⟩, y1, y2, es, ep, t, f⟩ := (y : OutX P w a L h1)
    exact ⟨⟨o, k o ho⟩, y1, y2, es, ep, t, fun h' z => f h' fun o e => z o (k o e)⟩⟩
theorem SX.out {P : Program} {w : World} {h : Heap} {a : Addr} {L : List (Addr × List Key)} {es : Array (Int × Value)} {ep : Nat} {t : SetTable} (R : SX P w h a L es ep t) : OutX P w a L h :=
  ⟨R.here.imp fun _ g => g.1, R.once, R.few, es, ep, t, fun _ z y => R.over z y⟩
theorem refs_are : ∀ {ks : List (Addr × List Key)} {us : List Value}, Vals (ks.map fun p => V.ref p.1) us → us = ks.map fun p => Value.ref p.1
  | [], _, .nil => rfl
  | p :: ks, _, .cons r t => by rw [List.map_cons, ← refs_are t]; cases r; rfl
theorem are_refs : ∀ ks : List (Addr × List Key), Vals (ks.map fun p => V.ref p.1) (ks.map fun p => Value.ref p.1)
  | [] => .nil
  | _ :: ks => .cons rfl (are_refs ks)
section
variable {X : Cx}
theorem inv_mt {pins : List (Addr × Obj)} {σ : L2.St} {H : Hp} {s : Shared} {b : Addr} {k : List Key} (I : Inv X pins σ H s) (h : SqT X.K H b (k.map kV)) : MT X.prog X.w s.heap k b := by
  obtain ⟨its, rv, ⟨o, g1, g2, n, g3⟩, _⟩ := I.tuple h
  exact ⟨o, its.toArray, n, g1, g2, g3, items_are rv⟩
def rSetX (K : PySem.W.Frag) (P : Program) (w : World) : List V → Hp → VK → Prop := fun xs H Q => ∃ (l : Addr) (ks : List (Addr × List Key)), xs = [.ref l] ∧ SqL K H l (ks.map fun p => V.ref p.1) ∧ (∀ p ∈ ks, SqT K H p.1 (p.2.map kV)) ∧ ks.length < 64 ∧
  ∀ a L, H a = none → (∀ q ∈ L, q ∈ ks) → (∀ p ∈ ks, p.2 ∈ L.map Prod.snd) → (L.map Prod.snd).Nodup → Q (.ref a) (upd H a (setXO P w a L))
theorem cr_setX (hc : X.calm = true) (hu : X.A.units + 64 < cLine) : CallR X (.type "set") (rSetX X.K X.prog X.w) := by
  intro pins s σ H xs us Q I r ⟨l, ks, e, hl, hk, few, q⟩
  subst e
  obtain ⟨its, rv, pl, _⟩ := I.list hl
  rw [Vals.ref1 r]
  refine setX_call (P := X.prog) (w := X.w) ks (I.ok.hd hc) pl.isList (refs_are rv) (fun p hp => inv_mt I (hk p hp)) few (by omega) fun h' tk L es ep t R g z => ?_
  exact ⟨.ref s.heap.objs.size, upd H s.heap.objs.size (setXO X.prog X.w s.heap.objs.size L), I.laid (t' := tk) z (Nat.le_refl _) (outX_ok R.out), rfl, q _ L (I.hok.fresh (Nat.le_refl _)) g.sub (fun p hp => by
    obtain ⟨j, hj⟩ := List.getElem?_of_mem hp
    exact g.all j p (List.getElem?_eq_some_iff.mp hj).1 hj) R.once⟩
def rSortedX (K : PySem.W.Frag) (P : Program) (w : World) : List V → Hp → VK → Prop := fun vs H Q => ∃ (a : Addr) (L : List (Addr × List Key)), vs = [.ref a] ∧ H a = some (setXO P w a L) ∧ (∀ q ∈ L, SqT K H q.1 (q.2.map kV)) ∧ PySem.W.AllAlike (L.map qD) ∧ Sortable2 (L.map qD) ∧ (∀ q ∈ L, (qD q).depth ≤ 1) ∧
  ∀ (L1 : List (Addr × List Key)) (p : Addr), L1.Perm L → H p = none → Q (.ref p) (upd H p (.lst ((L1.mergeSort (PySem.W.dataLe false qD)).map fun q => V.ref q.1)))
theorem cr_sortedX (hc : X.calm = true) (hu : X.A.units + 64 < cLine) : CallR X (.builtin "sorted") (rSortedX X.K X.prog X.w) := by
  intro pins s σ H vs us Q I r ⟨a, L, e, ha, hk, hal, hso, hdp, q⟩
  subst e
  obtain ⟨_, _, few, es, ep, t, f⟩ := ((I.hok a _ ha).1 : OutX X.prog X.w a L s.heap)
  have R := f s.heap (fun _ g => g) fun q hq => inv_mt I (hk q hq)
  rw [Vals.ref1 r]
  refine sortedX R (I.ok.hd hc) hal hso (fun q hq => by have := hdp q hq; omega) fun s' p out c L1 z g o hp hg pm ho => ?_
  have len : ((L1.mergeSort (PySem.W.dataLe false qD)).map fun q => V.ref q.1).length ≤ sizeLine := by
    rw [List.length_map, List.length_mergeSort, pm.length_eq, sizeLine_eq]
    omega
  have J : Inv X pins σ (upd H p (.lst ((L1.mergeSort (PySem.W.dataLe false qD)).map fun q => V.ref q.1))) { s with heap := s'.heap, gens := s'.gens, drawn := s'.drawn, toks := s'.toks } :=
    I.call (ch := []) (Un.laid z hp (I.hok.fresh hp)) (I.hok.laid z hp ⟨len, out.toList, c, by rw [ho]; exact are_refs _, hg⟩) (by rw [g]; exact I.bare) nofun
  have es' : s' = { s with heap := s'.heap, gens := s'.gens, drawn := s'.drawn, toks := s'.toks } := by
    cases s
    cases s'
    cases o
    rfl
  rw [es']
  exact ⟨.ref p, _, J, rfl, q L1 p pm (I.hok.fresh hp)⟩
end
end Sb

/-! P7: a module's dict of ints, a written dict asked at once, list(range), sorted(set(..)). -/
namespace Sb
open PySem PySem.Spec PyProof.Rows L2
section
variable {X : Cx} {e : Expr} {f g : FE} {fa : FA}
/-! ### a module's dict of texts to ints -/
def fInM (neg : Bool) (m : List (Str × Int)) (f : FE) : FE := fun e n => match f e n with
  | some (.d (.str z), n1) => some (.d (.bool ((lookM m z).isSome != neg)), n1)
  | _ => none
def fIxM (m : List (Str × Int)) (f : FE) : FE := fun e n => match f e n with
  | some (.d (.str z), n1) => (match lookM m z with
    | some i => some (.d (.int i), n1)
    | none => none)
  | _ => none
theorem e_notInM {p : Addr} {m : List (Str × Int)} (D : KDm X.K X.w p m) (h : PE X e (tOp (rInDm X.K X.w true) (tE X.kw f) (tC (.ref p)))) : PE X e (tE X.kw (fInM true m f)) := h.by fun σ H Q ⟨st, n, H0, I, ev, w, E, sv, n', q, k⟩ => by
  unfold fInM at q
  split at q
  · rename_i z n1 q1
    cases q
    refine ⟨st, n, H0, I, ev, w, E, _, _, q1, fun v I1 H1 x1 r1 _ => ?_⟩
    cases r1
    refine ⟨p, z, m, rfl, rfl, D, ?_⟩
    have := k (.bl (!(lookM m z).isSome)) I1 H1 x1 (by rw [Bool.bne_true]; exact .bl _) trivial
    exact this
  · cases q
theorem e_ixM {p : Addr} {m : List (Str × Int)} (D : KDm X.K X.w p m) (h : PE X e (tOp (rIxDm X.K X.w) (tC (.ref p)) (tE X.kw f))) : PE X e (tE X.kw (fIxM m f)) := h.by fun σ H Q ⟨st, n, H0, I, ev, w, E, sv, n', q, k⟩ => by
  unfold fIxM at q
  split at q
  · rename_i z n1 q1
    split at q
    · rename_i i q2
      cases q
      refine ⟨st, n, H0, I, ev, w, E, _, _, q1, fun v I1 H1 x1 r1 _ => ?_⟩
      cases r1
      exact ⟨p, z, m, i, rfl, rfl, D, q2, k _ I1 H1 x1 (.int _) trivial⟩
    · cases q
  · cases q
/-! ### {..}.get(key, other) -/
theorem Xt.other {st n I H p o} (w : Wr st n I H) (hp : H p = none) (ho : ∀ xs, o ≠ .tup xs) : Xt st n I H I (upd H p o) := by
  have hs := w.ne_st hp
  refine ⟨⟨⟨fun b x h => ?_, fun b xs h => ?_⟩, w.ist, by rw [upd_ne hs.symm]; exact w.hst⟩, Same.refl _, fun b u _ h => same_new hp _ _ h, fun _ _ _ => rfl⟩
  · exact same_new hp _ _ (w.im.sub _ _ h)
  · by_cases z : b = p
    · subst z
      rw [upd_same] at h
      exact absurd (Option.some.inj h) (ho xs)
    · rw [upd_ne z] at h
      exact w.im.tup _ _ h
def litT (m : List (Str × Int)) : List (TE × TE) := m.map fun p => (tC (.str p.1), tC (.int p.2))
def litKV (m : List (Str × Int)) : List (Key × V) := m.map fun p => (Sum.inr p.1, V.int p.2)
theorem lit_pairs : ∀ (m : List (Str × Int)) (σ : L2.St) (H : Hp) (Q : List (V × V) → Hp → Prop), Q ((litKV m).map fun kv => (kV kv.1, kv.2)) H → tPairs (litT m) σ H Q
  | [], _, _, _, h => h
  | p :: m, σ, H, Q, h => lit_pairs m σ H (fun ps H' => Q ((V.str p.1, V.int p.2) :: ps) H') h
def getM (m : List (Str × Int)) (z : Str) : Option Int := match valV (mergeK [] (litKV m)) (Sum.inr z) with
  | some (.int i) => some i
  | _ => none
def fGetLit (m : List (Str × Int)) (f g : FE) : FE := fun e n => match f e n with
  | some (.d (.str z), n1) => (match g e n1 with
    | some (.d (.int y), n2) => if m.length ≤ 15 then (match valV (mergeK [] (litKV m)) (Sum.inr z) with
        | some (.int i) => some (.d (.int i), n2)
        | none => some (.d (.int y), n2)
        | _ => none) else none
    | _ => none)
  | _ => none
theorem e_getLit {m : List (Str × Int)} (h : PE X e (tDGet2 (tDisp (litT m)) (tE X.kw f) (tE X.kw g))) : PE X e (tE X.kw (fGetLit m f g)) := h.by fun σ H Q ⟨st, n, H0, I, ev, w, E, sv, n', q, k⟩ => by
  unfold fGetLit at q
  split at q
  · rename_i z n1 q1
    split at q
    · rename_i y n2 q2
      split at q
      · rename_i hl
        intro p hp
        refine lit_pairs m σ _ _ ⟨upd_same, litKV m, rfl, by unfold litKV; rw [List.length_map]; exact hl, ?_⟩
        rw [upd_upd]
        have x0 : Xt st n I H I (upd H p (.dK (mergeK [] (litKV m)))) := Xt.other w hp (fun _ z => nomatch z)
        refine ⟨p, rfl, .inl ⟨_, .inl upd_same⟩, ?_⟩
        have hs := w.ne_st hp
        refine ⟨st, n, H0, I, ev, x0.w, E.mono x0, _, n1, q1, fun v I1 H1 x1 r1 _ => ⟨st, n1, H0, I1, ev, x1.w, (E.mono x0).mono x1, _, n2, q2, fun v2 I2 H2 x2 r2 _ => ?_⟩⟩
        cases r1
        cases r2
        have hd : H2 p = some (.dK (mergeK [] (litKV m))) := x2.hh _ _ hs (x1.hh _ _ hs upd_same)
        refine ⟨valV (mergeK [] (litKV m)) (Sum.inr z), DGet.k (k := Sum.inr z) hd, ?_⟩
        have xx := (x0.trans x1).trans x2
        split at q
        · rename_i i q3
          cases q
          rw [q3]
          exact k _ I2 H2 xx (.int _) trivial
        · rename_i q3
          cases q
          rw [q3]
          exact k _ I2 H2 xx (.int _) trivial
        · cases q
      · cases q
    · cases q
  · cases q
/-! ### list(range(n)) -/
def fListRg (f : FE) : FE := fun e n => match f e n with
  | some (.d (.int j), n1) => if 0 ≤ j ∧ j ≤ big then some (.cell (intsUp 0 j.toNat), n1) else none
  | _ => none
theorem e_listRg (h : PE X e (tLstRg (tRg1 (tE X.kw f)))) : PE X e (tE X.kw (fListRg f)) := h.by fun σ H Q ⟨st, n, H0, I, ev, w, E, sv, n', q, k⟩ => by
  unfold fListRg at q
  split at q
  · rename_i j n1 q1
    split at q
    · rename_i hj
      cases q
      refine ⟨st, n, H0, I, ev, w, E, _, _, q1, fun v I1 H1 x1 r1 _ => ?_⟩
      cases r1
      have hb : (big : Int) = 100000 := rfl
      refine ⟨j, rfl, ⟨by omega, by omega, by omega, by omega, by omega⟩, fun p hp => ?_⟩
      have hd : DpAll X.kw I1 (rgV 0 j) (intsUp 0 j.toNat) := by
        have e1 : rgV 0 j = ((List.range j.toNat).map fun (i : Nat) => (0 : Int) + (i : Int)).map V.int := by
          unfold rgV
          rw [List.map_map, Int.sub_zero]
          rfl
        have e2 : intsUp 0 j.toNat = ((List.range j.toNat).map fun (i : Nat) => (0 : Int) + (i : Int)).map PyData.int := by
          unfold intsUp
          rw [List.map_map]
          rfl
        rw [e1, e2]
        exact DpAll.ints _
      obtain ⟨x2, k2, k3⟩ := sv_cellNew x1.w hd hp
      exact k _ _ _ (x1.trans x2) k2 (Fr.back x1 k2 k3)
    · cases q
  · cases q
end
/-! ### sets, sorted at once -/
def nub {α : Type} [DecidableEq α] : List α → List α
  | [] => []
  | x :: xs => if x ∈ nub xs then nub xs else x :: nub xs
theorem mem_nub {α : Type} [DecidableEq α] {a : α} : ∀ {xs : List α}, a ∈ nub xs ↔ a ∈ xs
  | [] => Iff.rfl
  | x :: xs => by
    unfold nub
    split
    · rename_i h
      rw [mem_nub, List.mem_cons]
      constructor
      · exact .inr
      · rintro (e | e)
        · rw [e]; exact mem_nub.mp h
        · exact e
    · rw [List.mem_cons, List.mem_cons, mem_nub]
theorem nub_nodup {α : Type} [DecidableEq α] : ∀ xs : List α, (nub xs).Nodup
  | [] => List.nodup_nil
  | x :: xs => by
    unfold nub
    split
    · exact nub_nodup xs
    · rename_i h
      exact List.nodup_cons.mpr ⟨h, nub_nodup xs⟩
def keyT (k : List Key) : PyData := .tuple (k.map kD)
def leK (a b : List Key) : Bool := !PySem.W.dataLt (keyT b) (keyT a)
theorem toks_inj : ∀ {a b : List Key}, PySem.W.keyToksAll (a.map kD) = PySem.W.keyToksAll (b.map kD) → a = b
  | [], [], _ => rfl
  | [], y :: b, h => by
    rw [List.map_nil, List.map_cons, PySem.W.keyToksAll, PySem.W.keyToksAll] at h
    injection h with h1 h2
    injection h1 with h3
    exact absurd h3 (by decide)
  | x :: a, [], h => by
    rw [List.map_nil, List.map_cons, PySem.W.keyToksAll, PySem.W.keyToksAll] at h
    injection h with h1 h2
    injection h1 with h3
    exact absurd h3 (by decide)
  | x :: a, y :: b, h => by
    rw [List.map_cons, List.map_cons, PySem.W.keyToksAll, PySem.W.keyToksAll] at h
    injection h with _ h
    have one : ∀ z : Key, ∃ t, PySem.W.keyToks (kD z) = [t] ∧ t = (match z with
        | .inl i => Sum.inl i
        | .inr x => Sum.inr x.cps.toList : Int ⊕ List Nat) := fun z => by
      cases z with
      | inl i => exact ⟨.inl i, by rw [kD, PySem.W.keyToks], rfl⟩
      | inr x => exact ⟨.inr x.cps.toList, by rw [kD, PySem.W.keyToks], rfl⟩
    obtain ⟨t, e1, e2⟩ := one x
    obtain ⟨u, e3, e4⟩ := one y
    rw [e1, e3] at h
    injection h with h1 h2
    rw [toks_inj h2]
    congr 1
    rw [e2, e4] at h1
    cases x with
    | inl i =>
      cases y with
      | inl j => injection h1 with h1; rw [h1]
      | inr z => cases h1
    | inr i =>
      cases y with
      | inl j => cases h1
      | inr z => injection h1 with h1; rw [PySem.W.str_of_cps h1]
theorem leK_anti {a b : List Key} (h1 : leK a b = true) (h2 : leK b a = true) : a = b := by
  unfold leK at h1 h2
  rw [Bool.not_eq_true'] at h1 h2
  unfold keyT at h1 h2
  rw [PySem.W.dataLt_tuple] at h1 h2
  exact toks_inj (PyProof.Rows.lex_total _ _ h2 h1)
theorem leK_pw (l : List (List Key)) : (l.mergeSort leK).Pairwise fun a b => leK a b = true :=
  PySem.W.sort_pairwise (PySem.W.sortLe_total (listOrd itemOrd) false fun b => PySem.W.keyToks (keyT b)) l
theorem sortK_perm {l m : List (List Key)} (h : l.Perm m) : l.mergeSort leK = m.mergeSort leK :=
  List.Perm.eq_of_pairwise (fun a b _ _ h1 h2 => leK_anti h1 h2) (leK_pw l) (leK_pw m) (((List.mergeSort_perm l leK).trans h).trans (List.mergeSort_perm m leK).symm)
/-- a tuple of ints and texts -/
def keysOf : List PyData → Option (List Key)
  | [] => some []
  | .int i :: r => (match keysOf r with
    | some ks => some (.inl i :: ks)
    | none => none)
  | .str x :: r => (match keysOf r with
    | some ks => some (.inr x :: ks)
    | none => none)
  | _ :: _ => none
def keysAll : List PyData → Option (List (List Key))
  | [] => some []
  | .tuple xs :: r => (match keysOf xs, keysAll r with
    | some k, some ks => some (k :: ks)
    | _, _ => none)
  | _ :: _ => none
theorem keysOf_eq : ∀ {xs : List PyData} {k : List Key}, keysOf xs = some k → xs = k.map kD
  | [], k, h => by cases h; rfl
  | x :: r, k, h => by
    cases x with
    | int i =>
      unfold keysOf at h
      cases q : keysOf r with
      | none => simp only [q] at h; cases h
      | some ks => simp only [q] at h; cases h; rw [List.map_cons, keysOf_eq q]; rfl
    | str i =>
      unfold keysOf at h
      cases q : keysOf r with
      | none => simp only [q] at h; cases h
      | some ks => simp only [q] at h; cases h; rw [List.map_cons, keysOf_eq q]; rfl
    | _ => cases h
theorem keysAll_eq : ∀ {xs : List PyData} {k : List (List Key)}, keysAll xs = some k → xs = k.map keyT
  | [], k, h => by cases h; rfl
  | x :: r, k, h => by
    cases x with
    | tuple ys =>
      unfold keysAll at h
      split at h
      · rename_i k1 ks q1 q2
        cases h
        rw [List.map_cons, ← keysAll_eq q2, keyT, ← keysOf_eq q1]
      · cases h
    | _ => cases h
theorem key_vs {K : KW} {I : Hp} : ∀ {k : List Key} {vs : List V}, DpAll K I vs (k.map kD) → vs = k.map kV
  | [], _, h => by cases h; rfl
  | x :: k, _, h => by
    cases h with
    | cons h1 h2 =>
      rw [List.map_cons, ← key_vs h2]
      cases x with
      | inl i => cases h1; rfl
      | inr z => cases h1; rfl
theorem keys_at {K : KW} {I : Hp} : ∀ {kss : List (List Key)} {vs : List V}, DpAll K I vs (kss.map keyT) → ∃ ks : List (Addr × List Key), vs = ks.map (fun p => V.ref p.1) ∧ ks.map Prod.snd = kss ∧ ∀ p ∈ ks, SqT K I p.1 (p.2.map kV)
  | [], _, h => by cases h; exact ⟨[], rfl, rfl, fun _ h => by cases h⟩
  | k :: kss, _, h => by
    cases h with
    | cons h1 h2 =>
      obtain ⟨ks, e1, e2, e3⟩ := keys_at h2
      cases h1 with
      | tup hs ha =>
        rename_i vs a xs
        refine ⟨(a, k) :: ks, by rw [List.map_cons, ← e1], by rw [List.map_cons, e2], fun p hp => ?_⟩
        rcases List.mem_cons.mp hp with z | z
        · rw [z]
          rw [key_vs ha] at hs
          exact hs
        · exact e3 p z
def sortX (kss : List (List Key)) : List PyData := ((nub kss).mergeSort leK).map keyT
def fSortX (fa : FA) : FE := fun e n => match fa e n with
  | some ([a], n1) => (match a.see with
    | some (.list ds) => (match keysAll ds with
      | some kss => if kss.length < 64 ∧ sortOk ds = true then some (.cell (sortX kss), n1) else none
      | none => none)
    | _ => none)
  | _ => none
theorem depth_key : ∀ k : List Key, (keyT k).depth ≤ 1 := fun k => by
  unfold keyT
  rw [PyData.depth]
  have : ∀ k : List Key, PyData.depthAll (k.map kD) = 0 := fun k => by
    induction k with
    | nil => rfl
    | cons x k ih =>
      rw [List.map_cons, PyData.depthAll, ih]
      cases x <;> rfl
  rw [this]
  omega
section
variable {X : Cx} {e : Expr} {fa : FA} {K : KW} {P : Program} {w0 : World}
theorem sx_of {σ H} {Q : VK} (h : tE K (fSortX fa) σ H Q) : tCB (rSortedX K P w0) (tCons (tCB (rSetX K P w0) (tAs K fa)) tNil) σ H Q := by
  obtain ⟨st, n, H0, I, ev, w, E, sv, n', q, k⟩ := h
  unfold fSortX at q
  split at q
  · rename_i a n1 q1
    split at q
    · rename_i ds q2
      split at q
      · rename_i kss q3
        split at q
        · rename_i hc
          cases q
          refine ⟨st, n, H0, I, ev, w, E, _, _, q1, fun vs I1 H1 x1 r1 => ?_⟩
          cases r1 with
          | cons g1 _ g2 =>
            cases g2
            obtain ⟨l, us, e1, hl, hd⟩ := (g1.see q2).lst x1.w.im
            rw [keysAll_eq q3] at hd
            obtain ⟨ks, e2, e3, e4⟩ := keys_at hd
            have hlen : ks.length < 64 := by
              have := congrArg List.length e3
              rw [List.length_map] at this
              rw [this]
              exact hc.1
            refine ⟨l, ks, by rw [e1], by rw [← e2]; exact hl, fun p hp => ex_sqT x1.w.im.sub (e4 p hp), hlen, fun b L hb h1 h2 h3 => ?_⟩
            have x2 : Xt st n' I1 H1 I1 (upd H1 b (setXO P w0 b L)) := Xt.other x1.w hb (fun _ z => nomatch z)
            obtain ⟨o1, o2, o3, o4⟩ := sortOk_of hc.2
            have inL : ∀ d ∈ L.map qD, d ∈ ds := fun d hd' => by
              obtain ⟨p, hp, rfl⟩ := List.mem_map.mp hd'
              rw [keysAll_eq q3, ← e3, List.map_map]
              exact List.mem_map_of_mem (f := keyT ∘ Prod.snd) (h1 p hp)
            refine ⟨b, L, rfl, upd_same, fun p hp => ex_sqT x2.w.im.sub (e4 p (h1 p hp)), fun d hd1 d' hd2 => o1 d (inL d hd1) d' (inL d' hd2), ?_, fun p _ => depth_key p.2, fun L1 p pm hp => ?_⟩
            · rcases o2 with (z | z) | z
              · exact .inl (.inl fun d hd' => z d (inL d hd'))
              · exact .inl (.inr fun d hd' => z d (inL d hd'))
              · exact .inr fun d hd' => z d (inL d hd')
            · have es : (L1.mergeSort (PySem.W.dataLe false qD)).map Prod.snd = (nub kss).mergeSort leK := by
                rw [List.map_mergeSort (r := PySem.W.dataLe false qD) (s := leK) (f := Prod.snd) (l := L1) (fun a _ b _ => rfl)]
                refine sortK_perm ((pm.map Prod.snd).trans ((List.perm_ext_iff_of_nodup h3 (nub_nodup kss)).mpr fun a => ?_))
                rw [mem_nub]
                constructor
                · intro ha
                  obtain ⟨p, hp, rfl⟩ := List.mem_map.mp ha
                  rw [← e3]
                  exact List.mem_map_of_mem (h1 p hp)
                · intro ha
                  rw [← e3] at ha
                  obtain ⟨p, hp, rfl⟩ := List.mem_map.mp ha
                  exact h2 p hp
              have hdp : ∀ M : List (Addr × List Key), (∀ p ∈ M, p ∈ L) → DpAll K I1 (M.map fun q => V.ref q.1) ((M.map Prod.snd).map keyT) := fun M => by
                induction M with
                | nil => exact fun _ => .nil
                | cons p M ih =>
                  intro hM
                  refine .cons (.tup (e4 p (h1 p (hM p List.mem_cons_self))) ?_) (ih fun q hq => hM q (List.mem_cons_of_mem _ hq))
                  generalize p.2 = kk
                  induction kk with
                  | nil => exact .nil
                  | cons x kk ih2 =>
                    refine .cons ?_ ih2
                    cases x with
                    | inl i => exact .int i
                    | inr z => exact .str z
              have hd2 := hdp (L1.mergeSort (PySem.W.dataLe false qD)) (fun p hp => pm.mem_iff.mp (List.mem_mergeSort.mp hp))
              rw [es] at hd2
              obtain ⟨x3, k3, k4⟩ := sv_cellNew x2.w hd2 hp
              exact k _ _ _ ((x1.trans x2).trans x3) k3 (Fr.back (x1.trans x2) k3 k4)
        · cases q
      · cases q
    · cases q
  · cases q
theorem e_sortX (h : PE X e (tCB (rSortedX X.K X.prog X.w) (tCons (tCB (rSetX X.K X.prog X.w) (tAs X.kw fa)) tNil))) : PE X e (tE X.kw (fSortX fa)) := h.by fun σ H Q q => sx_of q
/-! ints -/
def ltI (a b : Int) : Bool := decide (a ≤ b)
def sortI (ns : List Int) : List Int := (nub ns).mergeSort ltI
theorem sortI_eq {ns ms : List Int} (h1 : ms.Pairwise (· < ·)) (h2 : ∀ k, k ∈ ms ↔ k ∈ ns) : ms = sortI ns := by
  have nd : ms.Nodup := h1.imp fun h => Int.ne_of_lt h
  have pm : ms.Perm (nub ns) := (List.perm_ext_iff_of_nodup nd (nub_nodup ns)).mpr fun a => by rw [h2, mem_nub]
  have tr : ∀ a b c : Int, ltI a b = true → ltI b c = true → ltI a c = true := fun a b c x y => by
    unfold ltI at *
    simp only [decide_eq_true_eq] at *
    omega
  have to : ∀ a b : Int, (ltI a b || ltI b a) = true := fun a b => by
    unfold ltI
    simp only [Bool.or_eq_true, decide_eq_true_eq]
    omega
  refine List.Perm.eq_of_pairwise (le := fun a b => ltI a b = true) (fun a b _ _ x y => ?_) (h1.imp fun h => ?_) (List.pairwise_mergeSort tr to (nub ns)) (pm.trans (List.mergeSort_perm _ _).symm)
  · unfold ltI at x y
    simp only [decide_eq_true_eq] at x y
    omega
  · unfold ltI
    rw [decide_eq_true_eq]
    omega
def fSortI (fa : FA) : FE := fun e n => match fa e n with
  | some ([.d (.tuple ds)], n1) => (match intsD ds with
    | some ns => if ns.length < 64 then some (.cell ((sortI ns).map PyData.int), n1) else none
    | none => none)
  | _ => none
theorem si_of {σ H} {Q : VK} (h : tE K (fSortI fa) σ H Q) : tCB (rSortedSet w0) (tCons (tCB (rSetTupI K w0) (tAs K fa)) tNil) σ H Q := by
  obtain ⟨st, n, H0, I, ev, w, E, sv, n', q, k⟩ := h
  unfold fSortI at q
  split at q
  · rename_i ds n1 q1
    split at q
    · rename_i ns q2
      split at q
      · rename_i hl
        cases q
        refine ⟨st, n, H0, I, ev, w, E, _, _, q1, fun vs I1 H1 x1 r1 => ?_⟩
        cases r1 with
        | cons g1 _ g2 =>
          cases g2
          cases g1 with
          | tup hs ha =>
            rename_i a us
            rw [intsD_of q2] at ha
            rw [ints_vs ha] at hs
            refine ⟨a, ns, rfl, ex_sqT x1.w.im.sub hs, by omega, fun b c hb hc => ?_⟩
            have x2 : Xt st n' I1 H1 I1 (upd H1 b (SetO w0 b (fun j => decide (j ∈ ns)) c)) := Xt.other x1.w hb (fun _ z => nomatch z)
            refine ⟨b, _, c, rfl, upd_same, by omega, fun ms p h1 h2 h3 hp => ?_⟩
            have em : ms = sortI ns := sortI_eq h1 fun j => by rw [h2, decide_eq_true_eq]
            rw [em]
            obtain ⟨x3, k3, k4⟩ := sv_cellNew x2.w (DpAll.ints (K := K) (sortI ns)) hp
            exact k _ _ _ ((x1.trans x2).trans x3) k3 (Fr.back (x1.trans x2) k3 k4)
      · cases q
    · cases q
  · cases q
theorem e_sortI (h : PE X e (tCB (rSortedSet X.w) (tCons (tCB (rSetTupI X.K X.w) (tAs X.kw fa)) tNil))) : PE X e (tE X.kw (fSortI fa)) := h.by fun σ H Q q => si_of q
end
end Sb

/-! P8: parts backwards: xs[::-1], xs[i::-1] of a list, z[::-1] of a text. -/
namespace Sb
open PySem PySem.Spec PyProof.Rows L2
/-- the places that [lo::-1] picks -/
def backIx (lo : Option Int) (n : Nat) : List Nat := sliceRange (sliceBounds lo none (some (-1)) n).1 (sliceBounds lo none (some (-1)) n).2.1 (sliceBounds lo none (some (-1)) n).2.2
def backL {α : Type} (lo : Option Int) (xs : List α) : List α := (backIx lo xs.length).filterMap (xs[·]?)
theorem vals_pick {xs : List V} {us : List Value} (r : Vals xs us) : ∀ ix : List Nat, Vals (ix.filterMap (xs[·]?)) (ix.filterMap (us[·]?))
  | [] => .nil
  | i :: ix => by
    cases q : xs[i]? with
    | none =>
      rw [List.filterMap_cons, List.filterMap_cons, q, r.none_of q]
      exact vals_pick r ix
    | some x =>
      obtain ⟨u, hu, ru⟩ := r.get q
      rw [List.filterMap_cons, List.filterMap_cons, q, hu]
      exact .cons ru (vals_pick r ix)
theorem dp_pick {K : KW} {I : Hp} {vs : List V} {ds : List PyData} (h : DpAll K I vs ds) : ∀ ix : List Nat, DpAll K I (ix.filterMap (vs[·]?)) (ix.filterMap (ds[·]?))
  | [] => .nil
  | i :: ix => by
    cases q : vs[i]? with
    | none =>
      have q2 : ds[i]? = none := by
        have := List.getElem?_eq_none_iff.mp q
        exact List.getElem?_eq_none_iff.mpr (by rw [← DpAll.len h]; exact this)
      rw [List.filterMap_cons, List.filterMap_cons, q, q2]
      exact dp_pick h ix
    | some x =>
      obtain ⟨d, hd, kd⟩ := DpAll.get h q
      rw [List.filterMap_cons, List.filterMap_cons, q, hd]
      exact .cons kd (dp_pick h ix)
theorem back_le {α : Type} (lo : Option Int) (xs : List α) : (backL lo xs).length ≤ xs.length := by
  have e : (backL lo xs).length ≤ (backIx lo xs.length).length := List.length_filterMap_le _ _
  refine Nat.le_trans e ?_
  unfold backIx
  refine sliceRange_length_le _ _ _ xs.length (fun h => ?_) (fun _ => ?_)
  · exact absurd h (by show ¬ ((-1 : Int) > 0); decide)
  · unfold sliceBounds
    simp only [Option.getD_some, show ¬ ((-1 : Int) > 0) by decide, if_false]
    refine ⟨?_, ?_⟩
    · cases lo with
      | none => exact Int.le_refl _
      | some i => simp only; omega
    · exact Int.le_refl _
section
variable {X : Cx} {e : Expr} {f : FE} {a : FO}
def tBack (K : KW) (te : TE) (tl : TO) : TE := fun σ H Q => te σ H fun x H1 => tl σ H1 fun lo H2 => ∃ p xs, x = .ref p ∧ SqL K H2 p xs ∧ ∀ q, H2 q = none → Q (.ref q) (upd H2 q (.lst (backL lo xs)))
theorem pe_back {te : TE} {tl : TO} {lo : Option Expr} {k : Nat} {p1 p2 p3 pos : Pos} (he : PE X e te) (hl : PO X lo tl)
    (hw : ∀ a b, subscripted (.Slice lo none (some (.UnaryOp .USub (.Constant (.int 1) k p1) p2)) p3) false (.ref a) (.ref b) = operate [.ref a, .ref b] (getItem (.ref a) (.ref b)) := by intro _ _; with_unfolding_all rfl) :
    PE X (.Subscript e (.Slice lo none (some (.UnaryOp .USub (.Constant (.int 1) k p1) p2)) p3) pos) (tBack X.kw te tl) := by
  refine ⟨fun pins s σ H Q I h => ?_⟩
  refine Subscript_ (thn (he.run pins s σ H _ I h) fun v s1 ⟨x, H1, I1, r1, q1⟩ => ?_)
  have step : PO X (some (.UnaryOp .USub (.Constant (.int 1) k p1) p2)) (tPart (tUn (rU fun i => .int (-i)) (tC (.int 1)))) := po_some (pe_un un_neg pe_int)
  refine wpAny_Slice (thn (hl.run pins s1 σ H1 _ I1 q1) fun vl s2 ⟨l, H2, I2, pl, p, xs, ex, hx, q⟩ => ?_)
  subst ex
  cases r1
  refine thn (po_none.run pins s2 σ H2 (fun o G => o = none ∧ G = H2) I2 ⟨rfl, rfl⟩) fun vu s3 ⟨u, H3, I3, pu, g1, g2⟩ => ?_
  subst g1 g2
  refine thn (step.run pins s3 σ H3 (fun o G => o = some (-1) ∧ G = H3) I3 ⟨1, rfl, -1, rfl, rfl, rfl⟩) fun vs s4 ⟨o, H4, I4, ps, g1, g2⟩ => ?_
  subst g1 g2
  have J : Inv X pins σ H4 { s4 with heap := s4.heap.push { cls := .type "slice", data := .fields #[vl, vu, vs] } } := I4.kept (t' := s4.toks) fun _ _ z => Heap.get?_push_of_some _ z
  obtain ⟨its, r, hi, hz⟩ := J.list hx
  have el := r.length
  refine tail_any (ops := [.ref p, .ref s4.heap.objs.size]) hi.isList.typeIs (PySem.slot_list_getitem.lookup) ?_ (hw _ _)
  refine wpAny_getItem_list_slice hi.isList (Heap.IsSliceOf.new _ vl vu vs) pl pu ps (by decide) ?_ (by rw [List.size_toArray]; omega)
  have ev : slicePick its.toArray l none (some (-1)) = (backL l its).toArray := by
    unfold slicePick backL backIx
    rw [List.size_toArray]
    have eq : (fun i : Nat => its.toArray[i]?) = fun i : Nat => its[i]? := by
      funext i
      simp
    rw [eq]
  rw [ev]
  refine ⟨.ref _, _, J.laid (t' := s4.toks) (o := .lst (backL l xs)) (fun _ _ z => Heap.get?_push_of_some _ z) (Nat.le_refl _) ?_, rfl, q _ (J.hok.fresh (Nat.le_refl _))⟩
  refine ⟨Nat.le_trans (back_le l xs) hz, backL l its, 0, ?_, Heap.get?_push_size _ rfl⟩
  unfold backL
  rw [← el]
  exact vals_pick r _
def fBack (f : FE) (a : FO) : FE := fun e n => match f e n with
  | some (.cell _, _) => none
  | some (s, n1) => (match s.see with
    | some (.list xs) => (match a e n1 with
      | some (lo, n2) => some (.cell (backL lo xs), n2)
      | none => none)
    | _ => none)
  | none => none
theorem e_back (h : PE X e (tBack X.kw (tE X.kw f) (tOs X.kw a))) : PE X e (tE X.kw (fBack f a)) := h.by fun σ H Q ⟨st, n, H0, I, ev, w, E, sv, n', q, k⟩ => by
  unfold fBack at q
  split at q
  · cases q
  · rename_i s n1 nc q1
    split at q
    · rename_i xs q2
      split at q
      · rename_i lo n2 q3
        cases q
        refine ⟨st, n, H0, I, ev, w, E, _, _, q1, fun v I1 H1 x1 r1 _ => ⟨st, n1, H0, I1, ev, x1.w, E.mono x1, lo, _, q3, fun I2 H2 x2 => ?_⟩⟩
        obtain ⟨p, vs, e1, h1, h2⟩ := ((r1.mono x2).see q2).lst x2.w.im
        refine ⟨p, vs, e1, h1, fun b hb => ?_⟩
        have hd : DpAll X.kw I2 (backL lo vs) (backL lo xs) := by
          unfold backL
          rw [DpAll.len h2]
          exact dp_pick h2 _
        obtain ⟨x3, k3, k4⟩ := sv_cellNew x2.w hd hb
        exact k _ _ _ ((x1.trans x2).trans x3) k3 (Fr.back (x1.trans x2) k3 k4)
      · cases q
    · cases q
  · cases q
theorem s_setLc {s : Stmt} {i : Nat} {g : TG} {tg : FG} {sl own : List Nat} {it : FI} {t : FT} (hg : GDo X.kw g tg sl) (ho : ∀ i ∈ sl, i ∈ own) (h : PS X s (tAsg (tLc (tIs X.kw true it) g (tTs X.kw t) (tE X.kw f) own) (gName i))) : PS X s (tSs X.kw (sAsg i (fLc it tg own t f))) :=
  s_set (h.by fun D σ H q => lc_of hg ho σ H _ q)
theorem s_setLc2 {s : Stmt} {i : Nat} {g g1 : TG} {tg tg1 : FG} {sl sl1 own vs1 : List Nat} {it it1 : FI} {t t1 : FT} (hg : GDo X.kw g tg sl) (ho : ∀ i ∈ sl, i ∈ own) (hg1 : GDo X.kw g1 tg1 sl1) (ho1 : ∀ i ∈ sl1, i ∈ vs1) (h : PS X s (tAsg (tLc2 (tIs X.kw true it) g (tTs X.kw t) (tIs X.kw false it1) g1 (tTs X.kw t1) (tE X.kw f) own vs1) (gName i))) : PS X s (tSs X.kw (sAsg i (fLc2 it tg own t it1 tg1 vs1 t1 f))) :=
  s_set (h.by fun D σ H q => lc2_of hg ho hg1 ho1 σ H _ q)
theorem t_notInM {p : Addr} {m : List (Str × Int)} (D : KDm X.K X.w p m) (h : PT X e (tTest (tOp (rInDm X.K X.w true) (tE X.kw f) (tC (.ref p))))) : PT X e (tTs X.kw (bT (fInM true m f))) := h.by fun σ H Q ⟨st, n, H0, I, ev, w, E, b, n', q, k⟩ => by
  have q := bT_eq q
  unfold fInM at q
  split at q
  · rename_i z n1 q1
    cases q
    refine ⟨st, n, H0, I, ev, w, E, _, _, q1, fun v I1 H1 x1 r1 _ => ?_⟩
    cases r1
    refine ⟨p, z, m, rfl, rfl, D, _, rfl, ?_⟩
    have := k I1 H1 x1
    rw [Bool.bne_true] at this
    exact this
  · cases q
end
end Sb

namespace Sb
open PySem PySem.Spec PyProof.Rows L2 HT
/-! ### a tuple cut backwards: t[i::-1] -/
def backA (lo : Option Int) (n : Nat) : Int := (Builtin.Slice.sliceAdjust lo none (-1) (n : Int)).1
def backP (lo : Option Int) (n : Nat) : Nat := Builtin.Slice.slicePlaces (backA lo n) (-1) (-1)
def backTL {α : Type} (lo : Option Int) (xs : List α) : List α := ((List.range (backP lo xs.length)).map fun (m : Nat) => (backA lo xs.length + (m : Int) * (-1)).toNat).filterMap (xs[·]?)
theorem backP_le (lo : Option Int) (n : Nat) : backP lo n ≤ n := by
  have h : backA lo n ≤ (n : Int) - 1 := by
    unfold backA Builtin.Slice.sliceAdjust
    simp only [show ((-1 : Int) < 0) from by omega, if_true]
    cases lo with
    | none => exact Int.le_refl _
    | some v => simp only; split <;> omega
  unfold backP Builtin.Slice.slicePlaces
  rw [if_neg (by omega)]
  split
  · rw [show -(-1 : Int) = 1 by omega, Int.ediv_one]
    omega
  · show (0 : Int).toNat ≤ n
    exact Nat.zero_le _
theorem backT_le {α : Type} (lo : Option Int) (xs : List α) : (backTL lo xs).length ≤ xs.length := by
  refine Nat.le_trans (List.length_filterMap_le _ _) ?_
  rw [List.length_map, List.length_range]
  exact backP_le lo xs.length
section
variable {prog : Program} {w : World} {A : Around} {E : Value → Shared → Prop} {s : Shared}
theorem sliceApplied_back {sl : Addr} {vl vs : Value} {lo : Option Int} {n : Nat} {Q : Int × Int × Nat → Shared → Prop} (hs : s.heap.IsSliceOf sl vl .none vs) (pl : IsPart vl lo) (ps : IsPart vs (some (-1)))
    (h : Q (backA lo n, -1, backP lo n) s) : wpAny (model prog w) A (Builtin.Slice.sliceApplied (.ref sl) (pure (n : Int))) Q E s := by
  obtain ⟨os, hos, hcs, hds⟩ := id hs
  unfold Builtin.Slice.sliceApplied Builtin.Slice.sliceFields
  refine wpAny_bind (wpAny_bind (wpAny_field hos hds (x := vl) rfl (wpAny_bind (wpAny_field hos hds (x := .none) rfl (wpAny_bind (wpAny_field hos hds (x := vs) rfl (wpAny_pure ?_)))))))
  refine wpAny_bind (slicePart_ ps ?_)
  show wpAny _ _ (if ((-1 : Int) == 0) = true then _ else _) _ _ s
  rw [if_neg (by decide)]
  refine wpAny_bind (slicePart_ pl (wpAny_bind (slicePart_none (wpAny_bind (wpAny_pure ?_)))))
  exact wpAny_pure h
theorem getItem_tuple_back {t sl : Addr} {items : Array Value} {vl vs : Value} {lo : Option Int} {Q : Value → Shared → Prop} (ht : IsTup s.heap t items) (hs : s.heap.IsSliceOf sl vl .none vs) (pl : IsPart vl lo) (ps : IsPart vs (some (-1)))
    (h : Q (.ref s.heap.objs.size) { s with heap := s.heap.push { cls := .type "tuple", data := .seq (backTL lo items.toList).toArray } })
    (hsz : items.size ≤ sizeLine) : wpAny (model prog w) A (getItem (.ref t) (.ref sl)) Q E s := by
  have htake : sizeOk (.seq (backTL lo items.toList).toArray) := by
    show (backTL lo items.toList).toArray.size ≤ sizeLine
    show (backTL lo items.toList).length ≤ sizeLine
    exact Nat.le_trans (backT_le lo items.toList) hsz
  obtain ⟨os, hos, hcs, hds⟩ := id hs
  have hTs : s.TypeIs (.ref sl) "slice" := ⟨os, hos, hcs⟩
  unfold getItem
  try with_reducible refine wpAny_holding ?_
  first | refine wpAny_bind (wpAny_pure ?_) | skip
  refine wpAny_bind (wpAny_sequenceKey ht.typeIs (by decide) ?_)
  refine wpAny_bind (wpAny_callSpecial?_slot (name := Str.ofString "__getitem__") ht.typeIs PyProof.Rows.slot_tuple_getitem
    (wpAny_call_entry PyProof.Rows.slot_tuple_getitem ht.typeIs entry_tuple_getitem ?_ (args_tuple_getitem _ _)))
  show wpAny _ _ (Builtin.Tuple.tupleItemsOf (.ref t) >>= _) _ _ s
  refine wpAny_bind (tupleItemsOf_ ht ?_)
  refine wpAny_bind (wpAny_typeOf hTs ?_)
  rw [if_pos (by decide)]
  refine wpAny_bind (sliceApplied_back hs pl ps ?_)
  have hno : ¬ ((backA lo items.size == 0 && (-1 : Int) == 1 && backP lo items.size == items.size) = true) := by
    intro q
    rw [Bool.and_eq_true, Bool.and_eq_true] at q
    exact absurd q.1.2 (by decide)
  have ev : ((List.range (backP lo items.size)).filterMap fun (m : Nat) => items[(backA lo items.size + (m : Int) * (-1)).toNat]?).toArray = (backTL lo items.toList).toArray := by
    unfold backTL
    rw [List.filterMap_map, Array.length_toList]
    congr 1
    congr 1
    funext m
    simp
  show wpAny _ _ (if (backA lo items.size == 0 && (-1 : Int) == 1 && backP lo items.size == items.size) = true then _ else _) _ _ s
  rw [if_neg hno, ev]
  first
    | exact wpAny_bind (m := Builtin.Tuple.tupleExact _) (wpAny_newObj_type (wpAny_pure ⟨_, rfl, wpAny_pure h⟩) htake)
    | exact wpAny_bind (m := Builtin.Tuple.tupleExact _) (wpAny_newObj_type (wpAny_bind (wpAny_pure (wpAny_pure ⟨_, rfl, wpAny_pure h⟩))) htake)
    | exact wpAny_bind (wpAny_bind (m := Builtin.Tuple.tupleExact _) (wpAny_newObj_type (wpAny_pure (wpAny_pure ⟨_, rfl, wpAny_pure h⟩)) htake))
    | exact wpAny_bind (wpAny_bind (m := Builtin.Tuple.tupleExact _) (wpAny_newObj_type (wpAny_pure ⟨_, rfl, wpAny_pure h⟩) htake))
end
section
variable {X : Cx} {e : Expr} {f : FE} {a : FO}
def tBackT (K : KW) (te : TE) (tl : TO) : TE := fun σ H Q => te σ H fun x H1 => tl σ H1 fun lo H2 => ∃ p xs, x = .ref p ∧ SqT K H2 p xs ∧ ∀ q, H2 q = none → Q (.ref q) (upd H2 q (.tup (backTL lo xs)))
theorem pe_backT {te : TE} {tl : TO} {lo : Option Expr} {k : Nat} {p1 p2 p3 pos : Pos} (he : PE X e te) (hl : PO X lo tl)
    (hw : ∀ a b, subscripted (.Slice lo none (some (.UnaryOp .USub (.Constant (.int 1) k p1) p2)) p3) false (.ref a) (.ref b) = operate [.ref a, .ref b] (getItem (.ref a) (.ref b)) := by intro _ _; with_unfolding_all rfl) :
    PE X (.Subscript e (.Slice lo none (some (.UnaryOp .USub (.Constant (.int 1) k p1) p2)) p3) pos) (tBackT X.kw te tl) := by
  refine ⟨fun pins s σ H Q I h => ?_⟩
  refine Subscript_ (thn (he.run pins s σ H _ I h) fun v s1 ⟨x, H1, I1, r1, q1⟩ => ?_)
  have step : PO X (some (.UnaryOp .USub (.Constant (.int 1) k p1) p2)) (tPart (tUn (rU fun i => .int (-i)) (tC (.int 1)))) := po_some (pe_un un_neg pe_int)
  refine wpAny_Slice (thn (hl.run pins s1 σ H1 _ I1 q1) fun vl s2 ⟨l, H2, I2, pl, p, xs, ex, hx, q⟩ => ?_)
  subst ex
  cases r1
  refine thn (po_none.run pins s2 σ H2 (fun o G => o = none ∧ G = H2) I2 ⟨rfl, rfl⟩) fun vu s3 ⟨u, H3, I3, pu, g1, g2⟩ => ?_
  subst g1 g2
  refine thn (step.run pins s3 σ H3 (fun o G => o = some (-1) ∧ G = H3) I3 ⟨1, rfl, -1, rfl, rfl, rfl⟩) fun vs s4 ⟨o, H4, I4, ps, g1, g2⟩ => ?_
  subst g1 g2
  cases pu
  have J : Inv X pins σ H4 { s4 with heap := s4.heap.push { cls := .type "slice", data := .fields #[vl, .none, vs] } } := I4.kept (t' := s4.toks) fun _ _ z => Heap.get?_push_of_some _ z
  obtain ⟨its, r, ht, hz⟩ := J.tuple hx
  have el := r.length
  refine tail_any (ops := [.ref p, .ref s4.heap.objs.size]) ht.typeIs PyProof.Rows.slot_tuple_getitem.lookup ?_ (hw _ _)
  refine getItem_tuple_back ht (Heap.IsSliceOf.new _ vl .none vs) pl ps ?_ (by rw [List.size_toArray]; omega)
  refine ⟨.ref _, _, J.laid (t' := s4.toks) (o := .tup (backTL l xs)) (fun _ _ z => Heap.get?_push_of_some _ z) (Nat.le_refl _) ?_, rfl, q _ (J.hok.fresh (Nat.le_refl _))⟩
  refine ⟨Nat.le_trans (backT_le l xs) hz, backTL l its, ?_, IsTup.new _ _⟩
  unfold backTL
  rw [← el]
  exact vals_pick r _
def fBackT (f : FE) (a : FO) : FE := fun e n => match f e n with
  | some (.d (.tuple xs), n1) => (match a e n1 with
      | some (lo, n2) => some (.d (.tuple (backTL lo xs)), n2)
      | none => none)
  | _ => none
theorem e_backT (h : PE X e (tBackT X.kw (tE X.kw f) (tOs X.kw a))) : PE X e (tE X.kw (fBackT f a)) := h.by fun σ H Q ⟨st, n, H0, I, ev, w, E, sv, n', q, k⟩ => by
  unfold fBackT at q
  split at q
  · rename_i xs n1 q1
    split at q
    · rename_i lo n2 q3
      cases q
      refine ⟨st, n, H0, I, ev, w, E, _, _, q1, fun v I1 H1 x1 r1 _ => ⟨st, n1, H0, I1, ev, x1.w, E.mono x1, lo, _, q3, fun I2 H2 x2 => ?_⟩⟩
      obtain ⟨p, vs, e1, t1, i1, d1⟩ := ((r1.mono x2).see rfl).tup x2.w.im
      refine ⟨p, vs, e1, t1, fun b hb => ?_⟩
      have hd : DpAll X.kw I2 (backTL lo vs) (backTL lo xs) := by
        unfold backTL
        rw [DpAll.len d1]
        exact dp_pick d1 _
      obtain ⟨x3, k3⟩ := dp_tupNew x2.w hd hb
      exact k _ _ _ ((x1.trans x2).trans x3) k3 trivial
    · cases q
  · cases q
end
end Sb

namespace Sb
open PySem PySem.Spec PyProof.Rows L2 HT
/-! ### a text backwards: z[::-1] -/
def revZ (z : Str) : Str := ⟨((Builtin.Str.strSliceIndices none none (-1) z.length).filterMap (z.cps[·]?)).toArray⟩
theorem revZ_len (z : Str) : (revZ z).length ≤ z.length := by
  show ((Builtin.Str.strSliceIndices none none (-1) z.length).filterMap (z.cps[·]?)).toArray.size ≤ z.length
  show ((Builtin.Str.strSliceIndices none none (-1) z.length).filterMap (z.cps[·]?)).length ≤ z.length
  refine Nat.le_trans (List.length_filterMap_le _ _) ?_
  rw [picked_rev, List.length_map, List.length_range]
  exact Nat.le_refl _
section
variable {X : Cx} {e : Expr} {f : FE}
def tBackZ (te : TE) : TE := fun σ H Q => te σ H fun x H1 => ∃ z, x = .str z ∧ z.length ≤ sizeLine ∧ Q (.str (revZ z)) H1
theorem pe_backZ {te : TE} {k : Nat} {p1 p2 p3 pos : Pos} (he : PE X e te)
    (hw : ∀ x t b, subscripted (.Slice none none (some (.UnaryOp .USub (.Constant (.int 1) k p1) p2)) p3) false (.str x t) (.ref b) = operate [.str x t, .ref b] (getItem (.str x t) (.ref b)) := by intro _ _ _; with_unfolding_all rfl) :
    PE X (.Subscript e (.Slice none none (some (.UnaryOp .USub (.Constant (.int 1) k p1) p2)) p3) pos) (tBackZ te) := by
  refine ⟨fun pins s σ H Q I h => ?_⟩
  refine Subscript_ (thn (he.run pins s σ H _ I h) fun v s1 ⟨x, H1, I1, r1, z, ex, hz, q⟩ => ?_)
  have step : PO X (some (.UnaryOp .USub (.Constant (.int 1) k p1) p2)) (tPart (tUn (rU fun i => .int (-i)) (tC (.int 1)))) := po_some (pe_un un_neg pe_int)
  subst ex
  obtain ⟨t, rfl⟩ := r1
  refine wpAny_Slice (thn (po_none.run pins s1 σ H1 (fun o G => o = none ∧ G = H1) I1 ⟨rfl, rfl⟩) fun vl s2 ⟨l, H2, I2, pl, g1, g2⟩ => ?_)
  subst g1 g2
  refine thn (po_none.run pins s2 σ H2 (fun o G => o = none ∧ G = H2) I2 ⟨rfl, rfl⟩) fun vu s3 ⟨u, H3, I3, pu, g1, g2⟩ => ?_
  subst g1 g2
  refine thn (step.run pins s3 σ H3 (fun o G => o = some (-1) ∧ G = H3) I3 ⟨1, rfl, -1, rfl, rfl, rfl⟩) fun vs s4 ⟨o, H4, I4, ps, g1, g2⟩ => ?_
  subst g1 g2
  cases pl
  cases pu
  obtain ⟨st, rfl, est⟩ := IsPart.raw ps
  have J : Inv X pins σ H4 { s4 with heap := s4.heap.push { cls := .type "slice", data := .fields #[.none, .none, partValue st] } } := I4.kept (t' := s4.toks) fun _ _ z => Heap.get?_push_of_some _ z
  refine tail_any (ops := [.str z t, .ref s4.heap.objs.size]) (typeIs_str _ _ _) F.slot_str_getitem.lookup ?_ (hw _ _ _)
  have e1 : (st.map (·.1)).getD 1 = -1 := by rw [est]; rfl
  refine wpAny_getItem_str_slice (l := none) (u := none) (st := st) ⟨_, Heap.get?_push_size _ rfl, rfl, rfl⟩ (by rw [e1]; rfl) ?_
  unfold sliceMade slicePicked
  rw [e1]
  rw [if_neg (by
    intro h
    rw [Bool.and_eq_true] at h
    exact absurd h.1 (by decide))]
  exact ⟨Nat.le_trans (revZ_len z) hz, .str _, H4, J.tok _, ⟨_, rfl⟩, q⟩
def fBackZ (f : FE) : FE := fun e n => match f e n with
  | some (.d (.str z), n1) => if z.length ≤ big then some (.d (.str (revZ z)), n1) else none
  | _ => none
theorem e_backZ (h : PE X e (tBackZ (tE X.kw f))) : PE X e (tE X.kw (fBackZ f)) := h.by fun σ H Q ⟨st, n, H0, I, ev, w, E, sv, n', q, k⟩ => by
  unfold fBackZ at q
  split at q
  · rename_i z n1 q1
    split at q
    · rename_i hz
      cases q
      refine ⟨st, n, H0, I, ev, w, E, _, _, q1, fun v I1 H1 x1 r1 _ => ?_⟩
      cases r1
      rename_i hd
      cases hd
      exact ⟨z, rfl, Nat.le_trans hz (by decide), k _ _ _ x1 (.str _) trivial⟩
    · cases q
  · cases q
end
end Sb

namespace Sb
open PySem PySem.Spec PyProof.Rows L2
/-! ### xs[:k] of a list just made -/
section
variable {X : Cx} {e : Expr} {f : FE}
def fSlC (f : FE) (k : Int) : FE := fun e n => match f e n with
  | some (.cell xs, n1) => some (.cell (cutD xs none (some k)), n1)
  | some (.d (.list xs), n1) => some (.cell (cutD xs none (some k)), n1)
  | _ => none
theorem fSlC_eq {k : Int} {ev : Ev} {n n' : Nat} {sv : Sv} (q : fSlC f k ev n = some (sv, n')) : ∃ s xs, f ev n = some (s, n') ∧ s.see = some (.list xs) ∧ sv = .cell (cutD xs none (some k)) := by
  unfold fSlC at q
  split at q
  · rename_i xs n1 q1; cases q; exact ⟨_, xs, q1, rfl, rfl⟩
  · rename_i xs n1 q1; cases q; exact ⟨_, xs, q1, rfl, rfl⟩
  · cases q
theorem e_slC {hi : Option Expr} {k : Int} {p2 pos : Pos} (h : PE X e (tE X.kw f)) (h2 : PO X hi (tPart (tC (.int k)))) : PE X (.Subscript e (.Slice none hi none p2) pos) (tE X.kw (fSlC f k)) := (pe_slice sl_all h po_none h2).by fun σ H Q ⟨st, n, H0, I, ev, w, E, sv, n', q, kk⟩ => by
  obtain ⟨s, xs, q1, q2, rfl⟩ := fSlC_eq q
  refine ⟨st, n, H0, I, ev, w, E, _, _, q1, fun v I1 H1 x1 r1 _ => ⟨k, rfl, ?_⟩⟩
  obtain ⟨p, vs, e1, t1, d1⟩ := (r1.see q2).lst x1.w.im
  refine .inr (.inl ⟨p, vs, e1, t1, fun p' hp => ?_⟩)
  obtain ⟨x4, k4, k5⟩ := sv_cellNew x1.w (DpAll.cut d1 none (some k)) hp
  exact kk _ _ _ (x1.trans x4) k4 (Fr.back x1 k4 k5)
/-! xs[::-1] of a list just made -/
def fBackC (f : FE) : FE := fun e n => match f e n with
  | some (.cell xs, n1) => some (.cell (backL none xs), n1)
  | some (.d (.list xs), n1) => some (.cell (backL none xs), n1)
  | _ => none
theorem fBackC_eq {ev : Ev} {n n' : Nat} {sv : Sv} (q : fBackC f ev n = some (sv, n')) : ∃ s xs, f ev n = some (s, n') ∧ s.see = some (.list xs) ∧ sv = .cell (backL none xs) := by
  unfold fBackC at q
  split at q
  · rename_i xs n1 q1; cases q; exact ⟨_, xs, q1, rfl, rfl⟩
  · rename_i xs n1 q1; cases q; exact ⟨_, xs, q1, rfl, rfl⟩
  · cases q
theorem e_backC (h : PE X e (tBack X.kw (tE X.kw f) tNoPart)) : PE X e (tE X.kw (fBackC f)) := h.by fun σ H Q ⟨st, n, H0, I, ev, w, E, sv, n', q, kk⟩ => by
  obtain ⟨s, xs, q1, q2, rfl⟩ := fBackC_eq q
  refine ⟨st, n, H0, I, ev, w, E, _, _, q1, fun v I1 H1 x1 r1 _ => ?_⟩
  obtain ⟨p, vs, e1, t1, d1⟩ := (r1.see q2).lst x1.w.im
  refine ⟨p, vs, e1, t1, fun b hb => ?_⟩
  have hd : DpAll X.kw I1 (backL none vs) (backL none xs) := by
    unfold backL
    rw [DpAll.len d1]
    exact dp_pick d1 _
  obtain ⟨x4, k4, k5⟩ := sv_cellNew x1.w hd hb
  exact kk _ _ _ (x1.trans x4) k4 (Fr.back x1 k4 k5)
end
end Sb

namespace Sb
open PySem PySem.Spec PyProof.Rows L2
/-! ### list(z) of a text -/
def rListZ : List V → Hp → VK → Prop := fun vs H Q => ∃ z, vs = [.str z] ∧ z.length ≤ big ∧ ∀ l, H l = none → Q (.ref l) (upd H l (.lst ((signs z).map V.str)))
theorem vals_signs : ∀ (cs : List Nat) (us : List Value), us.length = cs.length → (∀ (i : Nat) (v : Value), us[i]? = some v → ∃ c u, cs[i]? = some c ∧ v = Value.str ⟨#[c]⟩ u) → Vals ((cs.map fun c => (⟨#[c]⟩ : Str)).map V.str) us
  | [], us, hl, _ => by
    cases us with
    | nil => exact .nil
    | cons _ _ => cases hl
  | c :: cs, us, hl, hv => by
    cases us with
    | nil => cases hl
    | cons u us =>
      obtain ⟨c', t', h1, h2⟩ := hv 0 u rfl
      cases h1
      exact .cons ⟨_, h2⟩ (vals_signs cs us (by simpa using hl) fun i v h => by simpa using hv (i + 1) v (by simpa using h))
section
variable {X : Cx}
theorem call_listZ (hc : X.calm = true) : CallR X (.type "list") rListZ := by
  intro pins s σ H vs us Q I r ⟨z, e, hz, q⟩
  subst e
  obtain ⟨u, rfl, t, rfl⟩ := vals1 r
  have hlz : ((signs z).map V.str).length = z.cps.size := by unfold signs; rw [List.length_map, List.length_map, Array.length_toList]
  refine call_list_str (I.ok.hd hc) z t (fun h' tk acc' c' kp e its => ?_) (big_le hz)
  have hv : Vals ((signs z).map V.str) acc'.toList := vals_signs z.cps.toList acc'.toList (by rw [Array.length_toList, Array.length_toList]; exact its.1) (fun i v h => by
    obtain ⟨c, u, h1, h2⟩ := its.2 i v (by simpa using h)
    exact ⟨c, u, by simpa using h1, h2⟩)
  exact ⟨.ref _, _, I.laid (t' := tk) kp (Nat.le_refl _) (show ObjOk X.prog X.w _ h' _ (.lst ((signs z).map V.str)) from ⟨by rw [hlz]; exact big_le hz, acc'.toList, c', hv, by simpa using e⟩), rfl, q _ (I.hok.fresh (Nat.le_refl _))⟩
end
def rListA (K : KW) : List V → Hp → VK → Prop := fun xs H Q => (∃ p ys, xs = [.ref p] ∧ (SqL K H p ys ∨ SqT K H p ys) ∧ ∀ l, H l = none → Q (.ref l) (upd H l (.lst ys))) ∨ rListZ xs H Q
theorem call_listA {X : Cx} (hc : X.calm = true) : CallR X (.type "list") (rListA X.kw) := CallR.or call_list_of (call_listZ hc)
def lstGZ (x : PyData) : Option Sv := match x with
  | .str z => if z.length ≤ big then some (.cell ((signs z).map PyData.str)) else none
  | x => lstG x
theorem dp_signs {K : KW} {I : Hp} : ∀ zs : List Str, DpAll K I (zs.map V.str) (zs.map PyData.str)
  | [] => .nil
  | z :: zs => .cons (.str z) (dp_signs zs)
theorem cd_lstA {K : KW} : CDo K (rListA K) (see1 lstGZ) := see1_of fun st n I H v x sv Q w hs e k => by
  unfold lstGZ at e
  split at e
  · rename_i z
    split at e
    · rename_i hz
      cases e
      rcases hs with h | ⟨p, vs, xs, rfl, h, _⟩
      · cases h
        refine .inr ⟨z, rfl, hz, fun l hl => ?_⟩
        obtain ⟨x4, k4, k5⟩ := sv_cellNew w (dp_signs (signs z)) hl
        exact k _ _ _ x4 k4 k5
      · cases h
    · cases e
  · unfold lstG at e
    split at e
    · cases e
      obtain ⟨p, vs, e1, h1, h2⟩ := hs.lst w.im
      refine .inl ⟨p, vs, by rw [e1], .inl h1, fun l hl => ?_⟩
      obtain ⟨x4, k4, k5⟩ := sv_cellNew w h2 hl
      exact k _ _ _ x4 k4 k5
    · cases e
      obtain ⟨p, vs, e1, h1, i1, h2⟩ := hs.tup w.im
      refine .inl ⟨p, vs, by rw [e1], .inr h1, fun l hl => ?_⟩
      obtain ⟨x4, k4, k5⟩ := sv_cellNew w h2 hl
      exact k _ _ _ x4 k4 k5
    · cases e
end Sb

/-! P14: range with a step of -1. -/
namespace Sb
open PySem PySem.Spec PyProof.Rows L2
section
variable {X : Cx} {e : Expr} {fa : FA}
def intsDn (i : Int) (n : Nat) : List PyData := (List.range n).map fun (k : Nat) => PyData.int (i - (k : Int))
def itRng3 (fa : FA) : FI := fun e n => match fa e n with
  | some ([.d (.int i), .d (.int j), .d (.int c)], n1) => if smallI i = true ∧ smallI j = true ∧ c = -1 then some (intsDn i (i - j).toNat, n1) else none
  | _ => none
theorem walk_rangeC {lo c : Int} {n : Nat} : Walk (Itc lo c n) n (fun _ => True) (YFn fun i => .int (lo + (i : Nat) * c)) :=
  ⟨fun i _ hi _ => hi, fun _ _ => Nat.le_refl _, fun i H v H' _ _ y => y⟩
theorem jr_rngC {K : KW} {st I lo n} {P : Hp → Prop} : JR K st (Itc lo (-1) n) (intsDn lo n) I P := by
  have hl : (intsDn lo n).length = n := by unfold intsDn; rw [List.length_map, List.length_range]
  refine ⟨fun _ => True, YFn fun i => .int (lo + (i : Nat) * (-1)), by rw [hl]; exact walk_rangeC, fun _ _ _ _ _ _ => trivial, fun n1 I1 H1 i x H2 w1 s1 p hi ⟨e, hx⟩ => ?_⟩
  subst e hx
  refine ⟨I1, _, ?_, .refl w1, .int _⟩
  rw [hl] at hi
  unfold intsDn
  rw [List.getElem?_map, List.getElem?_range hi]
  show some (PyData.int (lo - (i : Int))) = some (PyData.int (lo + (i : Int) * (-1)))
  congr 2
  omega
theorem i_rng3 {c : Bool} {tg : Expr} (h : PI X tg e (iRng3 (tAs X.kw fa))) : PI X tg e (tIs X.kw c (itRng3 fa)) := h.by fun σ H R ⟨st, n, H0, I, ev, w, E, xs, n', q, hl, k⟩ => by
  unfold itRng3 at q
  split at q
  · rename_i i j c n1 q1
    split at q
    · rename_i hs
      obtain ⟨hs1, hs2, rfl⟩ := hs
      cases q
      refine ⟨st, n, H0, I, ev, w, E, _, _, q1, fun vs I1 H1 x1 r1 => ?_⟩
      cases r1 with
      | cons h1 _ h2 =>
        cases h2 with
        | cons h3 _ h4 =>
          cases h4 with
          | cons h5 _ h6 =>
            cases h6
            cases h1
            cases h3
            cases h5
            exact ⟨i, j, -1, (i - j).toNat, rfl, RgC.neg (small_of hs1).1 (small_of hs1).2 (small_of hs2).1 (small_of hs2).2, k _ I1 H1 x1 jr_rngC⟩
    · cases q
  · cases q
end
end Sb

/-! P15: list.index. -/
namespace Sb
open PySem PySem.Spec PyProof.Rows L2
def indexG (a : Sv) (as : List Sv) : Option Sv := match a.see, as with
  | some (.list ds), [.d d] => if SeqAt.shaped (.list ds) = true ∧ SeqAt.shaped d = true then (match ds.findIdx? fun z => PyData.eqv z d with
      | some j => some (.d (.int (j : Nat)))
      | none => none) else none
  | _, _ => none
theorem md_index {K : KW} : MDo K (rIndexD K) indexG := by
  intro st n I H x a vs as sv Q w ra rs e k
  unfold indexG at e
  split at e
  · rename_i ds d hs
    split at e
    · rename_i hsh
      split at e
      · rename_i j hj
        cases e
        cases rs with
        | cons h1 hq h2 =>
          cases h2
          rename_i v
          obtain ⟨p, us, rfl, _, _⟩ := (ra.see hs).lst w.im
          have hL := (ra.see hs).dp w.im
          have hd : Dp K H v d := Dp.mono w.im.sub _ _ h1
          obtain ⟨hlt, hp, hn⟩ := List.findIdx?_eq_some_iff_getElem.mp hj
          refine ⟨p, v, d, ds, j, ds[j], rfl, rfl, hL, hd, hsh.1, hsh.2, List.getElem?_eq_getElem hlt, hp, fun m z hm hz => ?_, k _ I H (.refl w) (.int _) trivial⟩
          obtain ⟨hml, rfl⟩ := List.getElem?_eq_some_iff.mp hz
          have := hn m hm
          simpa using this
      · cases e
    · cases e
  · cases e
end Sb

/-! P16: a comprehension within a comprehension. -/
namespace Sb
open PySem PySem.Spec PyProof.Rows L2
theorem look_relab (env : Env) : ∀ (names : List (Str × NameKind)) (n : Str), (names.lookup n = some .cell ∨ names.lookup n = some .free) →
    (names.map fun x => match x with
      | (n, k) => if (k == NameKind.free && env.scope.kind == ScopeKind.function && env.kindOf n == some NameKind.cell) = true then (n, NameKind.cell) else (n, k)).lookup n = some .cell ∨
    (names.map fun x => match x with
      | (n, k) => if (k == NameKind.free && env.scope.kind == ScopeKind.function && env.kindOf n == some NameKind.cell) = true then (n, NameKind.cell) else (n, k)).lookup n = some .free
  | [], n, h => by rcases h with h | h <;> cases h
  | (m, k) :: r, n, h => by
    rw [List.map_cons]
    cases e : n == m with
    | true =>
      simp only [List.lookup_cons, e] at h
      dsimp only
      split
      · left
        simp only [List.lookup_cons, e]
      · simp only [List.lookup_cons, e]
        exact h
    | false =>
      simp only [List.lookup_cons, e] at h
      have ih := look_relab env r n h
      dsimp only
      split
      · simp only [List.lookup_cons, e]
        exact ih
      · simp only [List.lookup_cons, e]
        exact ih
theorem blkOk_nest {N : List Str} {scope' scope : PySem.Scope} {own : List (Str × Nat)} {cl : List (Str × Addr)} {C : Addr} {env : Env} (h : blkC N scope' scope own = true) : BlkOk N (compEnvC scope' cl C env).scope scope own := by
  have b := blkOk_by h
  refine ⟨b.kind, b.uniq, b.ix, fun y hy hf => ?_, b.own⟩
  exact look_relab env scope'.names y.1 (b.free y hy hf)
end Sb

/-! P20: x += e of ints, tuple(range(..)), list(range(a, b)). -/
namespace Sb
open PySem PySem.Spec PyProof.Rows L2
section
variable {X : Cx} {s : Stmt} {e : Expr} {f g : FE}
def sAug (i : Nat) (f : FE) : FS := fun e n => match e[i]? with
  | some (some (.d (.int a))) => (match f e n with
    | some (.d (.int b), n1) => some (.nx, e.set i (some (.d (.int (a + b)))), n1)
    | _ => none)
  | _ => none
theorem s_aug {i : Nat} (h : PS X s (tAug i (tE X.kw f) (rI0 fun i j => .int (i + j)))) : PS X s (tSs X.kw (sAug i f)) := h.by fun D σ H ⟨st, n, I0, H0, I, e, x, E, fl, e', n', q, k⟩ => by
  unfold sAug at q
  split at q
  · rename_i a q0
    split at q
    · rename_i b n1 q1
      cases q
      obtain ⟨v, h1, h2, _⟩ := E.at_ i _ q0
      cases h2
      refine ⟨_, h1, st, n, H0, I, e, x.w, E, _, _, q1, fun u I1 H1 x1 r1 _ => ?_⟩
      cases r1
      exact ⟨a, b, rfl, rfl, k _ I1 H1 (x.trans x1) ((E.mono x1).setD i (.int _)) x1.ii⟩
    · cases q
  · cases q
theorem rg_data {K : KW} {I : Hp} (i j : Int) : DpAll K I (rgV i j) (intsUp i (j - i).toNat) := by
  have e1 : rgV i j = ((List.range (j - i).toNat).map fun (k : Nat) => i + (k : Int)).map V.int := by
    unfold rgV
    rw [List.map_map]
    rfl
  have e2 : intsUp i (j - i).toNat = ((List.range (j - i).toNat).map fun (k : Nat) => i + (k : Int)).map PyData.int := by
    unfold intsUp
    rw [List.map_map]
    rfl
  rw [e1, e2]
  exact DpAll.ints _
def rgOk (i j : Int) : Bool := decide (-100000 ≤ i) && decide (i ≤ 100000) && decide (-100000 ≤ j) && decide (j ≤ 100000)
theorem rgOk_of {i j : Int} (h : rgOk i j = true) : RgOk i j := by
  unfold rgOk at h
  simp only [Bool.and_eq_true, decide_eq_true_eq] at h
  exact ⟨by omega, by omega, by omega, by omega, by omega⟩
def fTupRg1 (f : FE) : FE := fun e n => match f e n with
  | some (.d (.int j), n1) => if rgOk 0 j = true then some (.d (.tuple (intsUp 0 j.toNat)), n1) else none
  | _ => none
theorem e_tupRg1 (h : PE X e (tTupRg (tRg1 (tE X.kw f)))) : PE X e (tE X.kw (fTupRg1 f)) := h.by fun σ H Q ⟨st, n, H0, I, ev, w, E, sv, n', q, k⟩ => by
  unfold fTupRg1 at q
  split at q
  · rename_i j n1 q1
    split at q
    · rename_i hj
      cases q
      refine ⟨st, n, H0, I, ev, w, E, _, _, q1, fun v I1 H1 x1 r1 _ => ?_⟩
      cases r1
      refine ⟨j, rfl, rgOk_of hj, fun p hp => ?_⟩
      have hd : DpAll X.kw I1 (rgV 0 j) (intsUp 0 j.toNat) := by
        have := rg_data (K := X.kw) (I := I1) 0 j
        rw [Int.sub_zero] at this
        exact this
      obtain ⟨x2, k2⟩ := dp_tupNew x1.w hd hp
      exact k _ _ _ (x1.trans x2) k2 trivial
    · cases q
  · cases q
def fTupRg2 (f g : FE) : FE := fun e n => match f e n with
  | some (.d (.int i), n1) => (match g e n1 with
    | some (.d (.int j), n2) => if rgOk i j = true then some (.d (.tuple (intsUp i (j - i).toNat)), n2) else none
    | _ => none)
  | _ => none
theorem e_tupRg2 (h : PE X e (tTupRg (tRg2 (tE X.kw f) (tE X.kw g)))) : PE X e (tE X.kw (fTupRg2 f g)) := h.by fun σ H Q ⟨st, n, H0, I, ev, w, E, sv, n', q, k⟩ => by
  unfold fTupRg2 at q
  split at q
  · rename_i i n1 q1
    split at q
    · rename_i j n2 q2
      split at q
      · rename_i hj
        cases q
        refine ⟨st, n, H0, I, ev, w, E, _, _, q1, fun v I1 H1 x1 r1 _ => ⟨st, n1, H0, I1, ev, x1.w, E.mono x1, _, _, q2, fun v2 I2 H2 x2 r2 _ => ?_⟩⟩
        cases r1
        cases r2
        refine ⟨i, j, rfl, rfl, rgOk_of hj, fun p hp => ?_⟩
        obtain ⟨x3, k3⟩ := dp_tupNew x2.w (rg_data (K := X.kw) (I := I2) i j) hp
        exact k _ _ _ ((x1.trans x2).trans x3) k3 trivial
      · cases q
    · cases q
  · cases q
def fListRg2 (f g : FE) : FE := fun e n => match f e n with
  | some (.d (.int i), n1) => (match g e n1 with
    | some (.d (.int j), n2) => if rgOk i j = true then some (.cell (intsUp i (j - i).toNat), n2) else none
    | _ => none)
  | _ => none
theorem e_listRg2 (h : PE X e (tLstRg (tRg2 (tE X.kw f) (tE X.kw g)))) : PE X e (tE X.kw (fListRg2 f g)) := h.by fun σ H Q ⟨st, n, H0, I, ev, w, E, sv, n', q, k⟩ => by
  unfold fListRg2 at q
  split at q
  · rename_i i n1 q1
    split at q
    · rename_i j n2 q2
      split at q
      · rename_i hj
        cases q
        refine ⟨st, n, H0, I, ev, w, E, _, _, q1, fun v I1 H1 x1 r1 _ => ⟨st, n1, H0, I1, ev, x1.w, E.mono x1, _, _, q2, fun v2 I2 H2 x2 r2 _ => ?_⟩⟩
        cases r1
        cases r2
        refine ⟨i, j, rfl, rfl, rgOk_of hj, fun p hp => ?_⟩
        obtain ⟨x3, k3, k4⟩ := sv_cellNew x2.w (rg_data (K := X.kw) (I := I2) i j) hp
        exact k _ _ _ ((x1.trans x2).trans x3) k3 (Fr.back (x1.trans x2) k3 k4)
      · cases q
    · cases q
  · cases q
end
end Sb

/-! P47: a module's dict of texts to texts; str(int), int(text), text.split(text), text in text. -/
namespace Sb
open PySem PySem.Spec PyProof.Rows L2
def valS (e : DictEntry) : Option Str := match e.val with
  | .str i _ => some i
  | _ => none
def lookS : List (Str × Str) → Str → Option Str
  | [], _ => none
  | (y, i) :: r, x => if y = x then some i else lookS r x
structure KDs (K : PySem.W.Frag) (w : World) (a : Addr) (m : List (Str × Str)) : Prop where
  ex : ∃ es n, K.lookup a = some ⟨.type "dict", none, .dict es n, #[]⟩ ∧ PySem.W.KeysLit w.params es.toList ∧ es.toList.map (fun e => (keyD e, valS e)) = m.map fun p => (some p.1, some p.2)
  low : (a == sysModules) = false
theorem find_ds : ∀ {es : List DictEntry} {m : List (Str × Str)}, es.map (fun e => (keyD e, valS e)) = m.map (fun p => (some p.1, some p.2)) → ∀ x : Str,
    (lookS m x = none → (es.find? fun e => Value.isStrOf x e.key) = none) ∧ ∀ i, lookS m x = some i → ∃ e t, (es.find? fun e => Value.isStrOf x e.key) = some e ∧ e.val = .str i t
  | [], [], _, x => ⟨fun _ => rfl, fun i h => by cases h⟩
  | [], _ :: _, h, _ => by simp at h
  | _ :: _, [], h, _ => by simp at h
  | e :: es, (y, j) :: m, h, x => by
    rw [List.map_cons, List.map_cons] at h
    injection h with h1 h2
    have hk : keyD e = some y := congrArg Prod.fst h1
    have hv : valS e = some j := congrArg Prod.snd h1
    obtain ⟨t, ek⟩ : ∃ t, e.key = .str y t := by
      unfold keyD at hk
      split at hk
      · rename_i z t q
        cases hk
        exact ⟨t, q⟩
      · cases hk
    obtain ⟨t', ev⟩ : ∃ t, e.val = .str j t := by
      unfold valS at hv
      split at hv
      · rename_i z t q
        cases hv
        exact ⟨t, q⟩
      · cases hv
    have hb : Value.isStrOf x e.key = (y == x) := by rw [ek]; rfl
    have ih := find_ds h2 x
    by_cases hx : y = x
    · have hl : lookS ((y, j) :: m) x = some j := by unfold lookS; rw [if_pos hx]
      have hf : (List.find? (fun e => Value.isStrOf x e.key) (e :: es)) = some e := List.find?_cons_of_pos (by rw [hb]; exact beq_iff_eq.mpr hx)
      rw [hl, hf]
      exact ⟨fun q => (nomatch q), fun i q => ⟨e, t', rfl, by rw [← Option.some.inj q]; exact ev⟩⟩
    · have hl : lookS ((y, j) :: m) x = lookS m x := by conv => lhs; unfold lookS; rw [if_neg hx]
      have hf : (List.find? (fun e => Value.isStrOf x e.key) (e :: es)) = List.find? (fun e => Value.isStrOf x e.key) es := List.find?_cons_of_neg (by rw [hb]; exact fun q => hx (beq_iff_eq.mp q))
      rw [hl, hf]
      exact ih
def rInDs (K : PySem.W.Frag) (w : World) (neg : Bool) : R2 := fun x y H Q => ∃ p z m, x = .str z ∧ y = .ref p ∧ KDs K w p m ∧ Q (.bl (if neg then !(lookS m z).isSome else (lookS m z).isSome)) H
def rIxDs (K : PySem.W.Frag) (w : World) : R2 := fun x y H Q => ∃ p z m i, x = .ref p ∧ y = .str z ∧ KDs K w p m ∧ lookS m z = some i ∧ Q (.str i) H
section
variable {X : Cx} {e : Expr} {f g : FE} {fa : FA}
theorem ds_some {es : Array DictEntry} {m : List (Str × Str)} (h : es.toList.map (fun e => (keyD e, valS e)) = m.map fun p => (some p.1, some p.2)) (z : Str) : (findBy Value.isStrOf es z).isSome = (lookS m z).isSome := by
  have q := find_ds h z
  unfold findBy
  rw [← Array.find?_toList]
  cases e : lookS m z with
  | none => rw [q.1 e]; rfl
  | some i =>
    obtain ⟨d, t, e1, e2⟩ := q.2 i e
    rw [e1]
    rfl
theorem op_notInDs : OpR X (compareOp .NotIn) (rInDs X.K X.w true) := by
  intro pins s σ H x y v u Q I rx ry h
  obtain ⟨p, z, m, rfl, rfl, D, q⟩ := h
  obtain ⟨es, n, hl, hk, hm⟩ := D.ex
  obtain rfl : u = Value.ref p := ry
  obtain ⟨t, rfl⟩ := rx
  refine wpAny_notIn_of (strKind_is X.prog X.w z t) D.low (PySem.W.mapOf_K (prog := X.prog) (w := X.w) I.kIn hl hk) ⟨.bl _, H, I.tok _, rfl, ?_⟩
  rw [ds_some hm z]
  exact q
theorem ix_ds : IxR X (rIxDs X.K X.w) := by
  intro value slice pins s σ H x y v u Q I rx ry h hs
  obtain ⟨p, z, m, i, rfl, rfl, D, e, q⟩ := h
  obtain ⟨es, n, hl, hk, hm⟩ := D.ex
  obtain rfl : v = Value.ref p := rx
  obtain ⟨t, rfl⟩ := ry
  obtain ⟨d, t', e1, e2⟩ := (find_ds hm z).2 i e
  have M := PySem.W.mapOf_K (prog := X.prog) (w := X.w) I.kIn hl hk
  have hf : findBy Value.isStrOf es z = some (.str i t') := by
    unfold findBy
    rw [← Array.find?_toList, e1]
    show some d.val = _
    rw [e2]
  exact tail_any M.typeIs slot_dict_getitem.lookup (wpAny_getItem_of (strKind_is X.prog X.w z t) M hf ⟨.str i, H, I.tok _, ⟨_, rfl⟩, q⟩) hs
def fInS (m : List (Str × Str)) (f : FE) : FE := fun e n => match f e n with
  | some (.d (.str z), n1) => some (.d (.bool (!(lookS m z).isSome)), n1)
  | _ => none
def fIxS (m : List (Str × Str)) (f : FE) : FE := fun e n => match f e n with
  | some (.d (.str z), n1) => (match lookS m z with
    | some i => some (.d (.str i), n1)
    | none => none)
  | _ => none
theorem e_notInS {p : Addr} {m : List (Str × Str)} (D : KDs X.K X.w p m) (h : PE X e (tOp (rInDs X.K X.w true) (tE X.kw f) (tC (.ref p)))) : PE X e (tE X.kw (fInS m f)) := h.by fun σ H Q ⟨st, n, H0, I, ev, w, E, sv, n', q, k⟩ => by
  unfold fInS at q
  split at q
  · rename_i z n1 q1
    cases q
    refine ⟨st, n, H0, I, ev, w, E, _, _, q1, fun v I1 H1 x1 r1 _ => ?_⟩
    cases r1
    refine ⟨p, z, m, rfl, rfl, D, ?_⟩
    exact k (.bl (!(lookS m z).isSome)) I1 H1 x1 (.bl _) trivial
  · cases q
theorem e_ixS {p : Addr} {m : List (Str × Str)} (D : KDs X.K X.w p m) (h : PE X e (tOp (rIxDs X.K X.w) (tC (.ref p)) (tE X.kw f))) : PE X e (tE X.kw (fIxS m f)) := h.by fun σ H Q ⟨st, n, H0, I, ev, w, E, sv, n', q, k⟩ => by
  unfold fIxS at q
  split at q
  · rename_i z n1 q1
    split at q
    · rename_i i q2
      cases q
      refine ⟨st, n, H0, I, ev, w, E, _, _, q1, fun v I1 H1 x1 r1 _ => ?_⟩
      cases r1
      exact ⟨p, z, m, i, rfl, rfl, D, q2, k _ I1 H1 x1 (.str _) trivial⟩
    · cases q
  · cases q
theorem t_notInS {p : Addr} {m : List (Str × Str)} (D : KDs X.K X.w p m) (h : PT X e (tTest (tOp (rInDs X.K X.w true) (tE X.kw f) (tC (.ref p))))) : PT X e (tTs X.kw (bT (fInS m f))) := h.by fun σ H Q ⟨st, n, H0, I, ev, w, E, b, n', q, k⟩ => by
  have q := bT_eq q
  unfold fInS at q
  split at q
  · rename_i z n1 q1
    cases q
    refine ⟨st, n, H0, I, ev, w, E, _, _, q1, fun v I1 H1 x1 r1 _ => ?_⟩
    cases r1
    exact ⟨p, z, m, rfl, rfl, D, _, rfl, k I1 H1 x1⟩
  · cases q
/-! str(int), int(text) -/
def strIG (x : PyData) : Option Sv := match x with
  | .int i => if i.natAbs.log2 < 1920 then some (.d (.str (toString i))) else none
  | _ => none
def intSG (x : PyData) : Option Sv := match x with
  | .str a => (match PySem.intText? a with
    | some n => if a.length ≤ 640 then some (.d (.int n)) else none
    | none => none)
  | _ => none
variable {K : KW}
theorem cd_strI : CDo K (fun xs H Q => ∃ i : Int, xs = [.int i] ∧ i.natAbs.log2 < 1920 ∧ Q (.str (toString i)) H) (see1 strIG) := see1_of fun st n I H v x sv Q w hs e k => by
  unfold strIG at e
  split at e
  · split at e
    · rename_i i hi
      cases e
      exact ⟨i, by rw [hs.int], hi, k _ I H (.refl w) (.str _) trivial⟩
    · cases e
  · cases e
theorem cd_intS : CDo K (fun xs H Q => ∃ a n, xs = [.str a] ∧ PySem.intText? a = some n ∧ a.length ≤ 640 ∧ Q (.int n) H) (see1 intSG) := see1_of fun st n I H v x sv Q w hs e k => by
  unfold intSG at e
  split at e
  · rename_i a
    split at e
    · rename_i m hm
      split at e
      · rename_i hl
        cases e
        exact ⟨a, m, by rw [hs.str], hm, hl, k _ I H (.refl w) (.int _) trivial⟩
      · cases e
    · cases e
  · cases e
/-! split -/
def splitG (a : Sv) (as : List Sv) : Option Sv := match a, as with
  | .d (.str x), [.d (.str y)] => if (y.length == 0) = false ∧ x.length + 2 ≤ big then some (.cell ((Txt.split x y).map PyData.str)) else none
  | _, _ => none
theorem md_split : MDo K (fun x xs H Q => ∃ a b, x = .str a ∧ xs = [.str b] ∧ (b.length == 0) = false ∧ a.length + 2 ≤ sizeLine ∧ rNewStrs (Txt.split a b) H Q) splitG := by
  intro st n I H x a vs as sv Q w ra rs e k
  unfold splitG at e
  split at e
  · rename_i z y
    cases rs with
    | cons h1 _ h3 =>
      cases h3
      cases ra
      cases h1
      split at e
      · rename_i hc
        cases e
        refine ⟨z, y, rfl, rfl, hc.1, big_le hc.2, fun p hp => ?_⟩
        obtain ⟨x4, k4, k5⟩ := sv_cellNew w (DpAll.strs' (Txt.split z y)) hp
        exact k _ I _ x4 k4 k5
      · cases e
  · cases e
/-! text in text -/
def inSD (neg : Bool) (a b : PyData) : Option PyData := match a, b with
  | .str i, .str j => some (.bool ((!(Builtin.Str.occurrences j i 0 j.length 1).isEmpty) != neg))
  | _, _ => none
theorem rd_notInS : RDs K (fun x y H Q => ∃ i j, x = .str i ∧ y = .str j ∧ Q (.bl (!(!(Builtin.Str.occurrences j i 0 j.length 1).isEmpty))) H) (inSD true) := by
  intro st n I H x y a b d Q w ha hb e k
  unfold inSD at e
  split at e
  · cases e
    rw [Bool.bne_true] at k
    exact ⟨_, _, ha.str, hb.str, k _ I H (.refl w) (.bl _)⟩
  · cases e
end
end Sb

namespace Sb
open PySem PySem.Spec PyProof.Rows L2
/-! ### acts in their order: mathematics -/
theorem act_tri (x y : Str) (i j k l : Int) (h : ltD (.tuple [.str y, .int k, .int l]) (.tuple [.str x, .int i, .int j]) = false) (ne : (x, i, j) ≠ (y, k, l)) : ltD (.tuple [.str x, .int i, .int j]) (.tuple [.str y, .int k, .int l]) = true := by
  have h' : (decide (y.cps.toList < x.cps.toList) || (decide (y = x) && (decide (k < i) || (decide (k = i) && decide (l < j))))) = false := h
  show (decide (x.cps.toList < y.cps.toList) || (decide (x = y) && (decide (i < k) || (decide (i = k) && decide (j < l))))) = true
  rw [Bool.or_eq_false_iff] at h'
  by_cases e : x = y
  · subst e
    rw [decide_eq_true rfl, Bool.true_and] at h'
    simp only [Bool.or_eq_false_iff, Bool.and_eq_false_iff, decide_eq_false_iff_not] at h'
    rw [decide_eq_true rfl, Bool.true_and]
    have : i < k ∨ (i = k ∧ j < l) := by
      by_cases e2 : i = k
      · subst e2
        have : j ≠ l := fun e3 => ne (by rw [e3])
        omega
      · omega
    rcases this with g | ⟨g1, g2⟩
    · rw [decide_eq_true g, Bool.true_or, Bool.or_true]
    · rw [decide_eq_true g1, decide_eq_true g2, Bool.true_and, Bool.or_true, Bool.or_true]
  · have g := of_decide_eq_false h'.1
    have g2 : x.cps.toList < y.cps.toList := by
      rcases Decidable.em (x.cps.toList < y.cps.toList) with c | c
      · exact c
      · exact absurd (PySem.W.str_of_cps (List.le_antisymm (List.not_lt.mp g) (List.not_lt.mp c))) e
    rw [decide_eq_true g2, Bool.true_or]
/-- a sorted list of acts ascends where no act stands twice -/
theorem sorted_asc {α : Type} {enc : α → PyData} {l : List α} (ha : ∀ a ∈ l, ∃ z i j, enc a = .tuple [.str z, .int i, .int j]) (nd : (l.map enc).Nodup) : ascD ((l.mergeSort (PySem.W.dataLe false enc)).map enc) = true := by
  have pm := List.mergeSort_perm l (PySem.W.dataLe false enc)
  have pw := PySem.W.sort_pairwise (PySem.W.sortLe_total (listOrd itemOrd) false fun b => PySem.W.keyToks (enc b)) l
  have nd2 : ((l.mergeSort (PySem.W.dataLe false enc)).map enc).Nodup := (pm.map enc).nodup_iff.mpr nd
  refine asc_of fun n d e h1 h2 => ?_
  obtain ⟨a, g1, rfl⟩ := List.getElem?_map.symm.trans h1 |> Option.map_eq_some_iff.mp
  obtain ⟨b, g2, rfl⟩ := List.getElem?_map.symm.trans h2 |> Option.map_eq_some_iff.mp
  obtain ⟨l1, e1⟩ := List.getElem?_eq_some_iff.mp g1
  obtain ⟨l2, e2⟩ := List.getElem?_eq_some_iff.mp g2
  have le := List.pairwise_iff_getElem.mp pw n (n + 1) l1 l2 (Nat.lt_succ_self n)
  have ne := List.pairwise_iff_getElem.mp nd2 n (n + 1) (by rw [List.length_map]; exact l1) (by rw [List.length_map]; exact l2) (Nat.lt_succ_self n)
  rw [List.getElem_map, List.getElem_map] at ne
  have le' : PySem.W.dataLe false enc a b = true := by rw [← e1, ← e2]; exact le
  have ne' : enc a ≠ enc b := by rw [← e1, ← e2]; exact ne
  obtain ⟨x, i, j, ea⟩ := ha a (pm.mem_iff.mp (List.mem_of_getElem? g1))
  obtain ⟨y, k, m, eb⟩ := ha b (pm.mem_iff.mp (List.mem_of_getElem? g2))
  have le2 : (!PySem.W.dataLt (enc b) (enc a)) = true := le'
  rw [ea, eb, lt_act, Bool.not_eq_true'] at le2
  rw [ea, eb]
  refine act_tri x y i j k m le2 fun h => ne' ?_
  injection h with h1 h2
  injection h2 with h2 h3
  rw [ea, eb, h1, h2, h3]
end Sb

namespace Sb
open PySem PySem.Spec PyProof.Rows L2
def mREADINGS : List (Str × Int) := [("join", 2), ("sort", 1), ("turn", 1), ("first", 1), ("rest", 1), ("less", 2), ("same", 2), ("pick", 3)]
def mSIGNS : List (Str × Str) := [("thing", "t"), ("step", "s")]
def mKINDS : List (Str × Str) := [("t", "thing"), ("s", "step")]
def topS (i : Nat) : Stmt := PySem.Challenge.pw_samebuilds_k46_whole_recipe_texts.main.body.getD i (.Pass ⟨0, 0, 0, 0⟩)
abbrev s_is_number : Stmt := topS 12
theorem sc_is_number : FnScope ["value", "least", "most"] ["value", "least", "most"] (defScope s_is_number) := ⟨rfl, rfl, rfl, by decide +kernel, rfl, by decide +kernel, by decide +kernel⟩
abbrev s_is_tuple : Stmt := topS 13
theorem sc_is_tuple : FnScope ["value", "least", "most"] ["value", "least", "most"] (defScope s_is_tuple) := ⟨rfl, rfl, rfl, by decide +kernel, rfl, by decide +kernel, by decide +kernel⟩
abbrev s_is_text : Stmt := topS 14
theorem sc_is_text : FnScope ["value", "longest", "letter"] ["value", "longest"] (defScope s_is_text) := ⟨rfl, rfl, rfl, by decide +kernel, rfl, by decide +kernel, by decide +kernel⟩
abbrev s_is_ascending : Stmt := topS 15
theorem sc_is_ascending : FnScope ["values", "at"] ["values"] (defScope s_is_ascending) := ⟨rfl, rfl, rfl, by decide +kernel, rfl, by decide +kernel, by decide +kernel⟩
abbrev s_is_thing : Stmt := topS 16
theorem sc_is_thing : FnScope ["value", "text"] ["value"] (defScope s_is_thing) := ⟨rfl, rfl, rfl, by decide +kernel, rfl, by decide +kernel, by decide +kernel⟩
abbrev s_are_things : Stmt := topS 17
theorem sc_are_things : FnScope ["value", "many", "thing"] ["value"] (defScope s_are_things) := ⟨rfl, rfl, rfl, by decide +kernel, rfl, by decide +kernel, by decide +kernel⟩
abbrev s_is_reading : Stmt := topS 18
theorem sc_is_reading : FnScope ["value", "many_things", "step", "word", "number"] ["value", "many_things", "step"] (defScope s_is_reading) := ⟨rfl, rfl, rfl, by decide +kernel, rfl, by decide +kernel, by decide +kernel⟩
abbrev s_is_step : Stmt := topS 19
theorem sc_is_step : FnScope ["value", "many_things", "step", "operation", "reads", "reading"] ["value", "many_things", "step"] (defScope s_is_step) := ⟨rfl, rfl, rfl, by decide +kernel, rfl, by decide +kernel, by decide +kernel⟩
abbrev s_are_steps : Stmt := topS 20
theorem sc_are_steps : FnScope ["value", "many_things", "at"] ["value", "many_things"] (defScope s_are_steps) := ⟨rfl, rfl, rfl, by decide +kernel, rfl, by decide +kernel, by decide +kernel⟩
abbrev s_is_made : Stmt := topS 21
theorem sc_is_made : FnScope ["value", "many_steps", "number"] ["value", "many_steps"] (defScope s_is_made) := ⟨rfl, rfl, rfl, by decide +kernel, rfl, by decide +kernel, by decide +kernel⟩
abbrev s_is_recipe : Stmt := topS 22
theorem sc_is_recipe : FnScope ["value", "things", "steps", "made"] ["value"] (defScope s_is_recipe) := ⟨rfl, rfl, rfl, by decide +kernel, rfl, by decide +kernel, by decide +kernel⟩
abbrev s_check_recipe : Stmt := topS 23
theorem sc_check_recipe : FnScope ["value"] ["value"] (defScope s_check_recipe) := ⟨rfl, rfl, rfl, by decide +kernel, rfl, by decide +kernel, by decide +kernel⟩
abbrev s_written_thing : Stmt := topS 33
theorem sc_written_thing : FnScope ["thing", "text"] ["thing"] (defScope s_written_thing) := ⟨rfl, rfl, rfl, by decide +kernel, rfl, by decide +kernel, by decide +kernel⟩
abbrev s_written_step : Stmt := topS 34
theorem sc_written_step : FnScope ["step", "operation", "reads", "word", "number"] ["step"] (defScope s_written_step) := ⟨rfl, rfl, rfl, by decide +kernel, rfl, by decide +kernel, by decide +kernel⟩
abbrev s_written : Stmt := topS 35
theorem sc_written : FnScope ["recipe", "things", "steps", "made", "thing", "step", "number"] ["recipe"] (defScope s_written) := ⟨rfl, rfl, rfl, by decide +kernel, rfl, by decide +kernel, by decide +kernel⟩
abbrev s_format_recipe : Stmt := topS 36
theorem sc_format_recipe : FnScope ["recipe"] ["recipe"] (defScope s_format_recipe) := ⟨rfl, rfl, rfl, by decide +kernel, rfl, by decide +kernel, by decide +kernel⟩
abbrev s_read_thing : Stmt := topS 37
theorem sc_read_thing : FnScope ["text", "word"] ["text"] (defScope s_read_thing) := ⟨rfl, rfl, rfl, by decide +kernel, rfl, by decide +kernel, by decide +kernel⟩
abbrev s_read_number : Stmt := topS 38
theorem sc_read_number : FnScope ["text"] ["text"] (defScope s_read_number) := ⟨rfl, rfl, rfl, by decide +kernel, rfl, by decide +kernel, by decide +kernel⟩
abbrev s_read_reading : Stmt := topS 39
theorem sc_read_reading : FnScope ["text"] ["text"] (defScope s_read_reading) := ⟨rfl, rfl, rfl, by decide +kernel, rfl, by decide +kernel, by decide +kernel⟩
abbrev s_read_step : Stmt := topS 40
theorem sc_read_step : FnScope ["text", "words", "word"] ["text"] (defScope s_read_step) := ⟨rfl, rfl, rfl, by decide +kernel, rfl, by decide +kernel, by decide +kernel⟩
abbrev s_parse_recipe : Stmt := topS 41
theorem sc_parse_recipe : FnScope ["text", "parts", "things", "steps", "made", "recipe", "part"] ["text"] (defScope s_parse_recipe) := ⟨rfl, rfl, rfl, by decide +kernel, rfl, by decide +kernel, by decide +kernel⟩
abbrev s_cell_at : Stmt := topS 43
theorem sc_cell_at : FnScope ["_law_script", "_law_k", "_law_spare", "_law_again"] ["_law_script", "_law_k"] (defScope s_cell_at) := ⟨rfl, rfl, rfl, by decide +kernel, rfl, by decide +kernel, by decide +kernel⟩
abbrev s_mixed : Stmt := topS 44
theorem sc_mixed : FnScope ["_law_script", "_law_k", "_law_many", "_law_spun"] ["_law_script", "_law_k", "_law_many"] (defScope s_mixed) := ⟨rfl, rfl, rfl, by decide +kernel, rfl, by decide +kernel, by decide +kernel⟩
abbrev s_draw : Stmt := topS 45
theorem sc_draw : FnScope ["_law_script", "_law_state", "_law_many"] ["_law_script", "_law_state", "_law_many"] (defScope s_draw) := ⟨rfl, rfl, rfl, by decide +kernel, rfl, by decide +kernel, by decide +kernel⟩
abbrev s_some_of : Stmt := topS 46
theorem sc_some_of : FnScope ["_law_script", "_law_state", "_law_some", "_law_count", "_law_left", "_law_found"] ["_law_script", "_law_state", "_law_some", "_law_count"] (defScope s_some_of) := ⟨rfl, rfl, rfl, by decide +kernel, rfl, by decide +kernel, by decide +kernel⟩
abbrev s_pick : Stmt := topS 47
theorem sc_pick : FnScope ["_law_script", "_law_state", "_law_some"] ["_law_script", "_law_state", "_law_some"] (defScope s_pick) := ⟨rfl, rfl, rfl, by decide +kernel, rfl, by decide +kernel, by decide +kernel⟩
abbrev s_some_thing : Stmt := topS 48
theorem sc_some_thing : FnScope ["_law_script", "_law_state", "_law_some"] ["_law_script", "_law_state"] (defScope s_some_thing) := ⟨rfl, rfl, rfl, by decide +kernel, rfl, by decide +kernel, by decide +kernel⟩
abbrev s_some_step : Stmt := topS 49
theorem sc_some_step : FnScope ["_law_script", "_law_state", "_law_things", "_law_count", "_law_names", "_law_name", "_law_reads", "_law_again"] ["_law_script", "_law_state", "_law_things", "_law_count"] (defScope s_some_step) := ⟨rfl, rfl, rfl, by decide +kernel, rfl, by decide +kernel, by decide +kernel⟩
abbrev s_some_recipe : Stmt := topS 50
theorem sc_some_recipe : FnScope ["_law_script", "_law_state", "_law_again", "_law_things", "_law_steps", "_law_made"] ["_law_script", "_law_state"] (defScope s_some_recipe) := ⟨rfl, rfl, rfl, by decide +kernel, rfl, by decide +kernel, by decide +kernel⟩
abbrev s_law : Stmt := topS 51
theorem sc_law : FnScope ["_law_script", "_law_state", "_law_recipe", "_law_things", "_law_steps", "_law_made", "_law_rows", "_law_thing", "_law_text", "_law_name", "_law_reads", "_law_row", "_law_kind", "_law_one", "_law_number"] ["_law_script"] (defScope s_law) := ⟨rfl, rfl, rfl, by decide +kernel, rfl, by decide +kernel, by decide +kernel⟩
/-- what the top has written -/
structure Tx (K : PySem.W.Frag) (mg : Str → Option Value) (w : World) where
  f_is_number : Addr
  d_is_number : FuncData
  F_is_number : Fun K "is_number" "is_number" s_is_number f_is_number d_is_number
  g_is_number : mg "is_number" = some (.ref f_is_number)
  b_is_number : Binds K d_is_number ["value", "least", "most"] []
  f_is_tuple : Addr
  d_is_tuple : FuncData
  F_is_tuple : Fun K "is_tuple" "is_tuple" s_is_tuple f_is_tuple d_is_tuple
  g_is_tuple : mg "is_tuple" = some (.ref f_is_tuple)
  b_is_tuple : Binds K d_is_tuple ["value", "least", "most"] []
  f_is_text : Addr
  d_is_text : FuncData
  F_is_text : Fun K "is_text" "is_text" s_is_text f_is_text d_is_text
  g_is_text : mg "is_text" = some (.ref f_is_text)
  b_is_text : Binds K d_is_text ["value", "longest"] []
  f_is_ascending : Addr
  d_is_ascending : FuncData
  F_is_ascending : Fun K "is_ascending" "is_ascending" s_is_ascending f_is_ascending d_is_ascending
  g_is_ascending : mg "is_ascending" = some (.ref f_is_ascending)
  b_is_ascending : Binds K d_is_ascending ["values"] []
  f_is_thing : Addr
  d_is_thing : FuncData
  F_is_thing : Fun K "is_thing" "is_thing" s_is_thing f_is_thing d_is_thing
  g_is_thing : mg "is_thing" = some (.ref f_is_thing)
  b_is_thing : Binds K d_is_thing ["value"] []
  f_are_things : Addr
  d_are_things : FuncData
  F_are_things : Fun K "are_things" "are_things" s_are_things f_are_things d_are_things
  g_are_things : mg "are_things" = some (.ref f_are_things)
  b_are_things : Binds K d_are_things ["value"] []
  f_is_reading : Addr
  d_is_reading : FuncData
  F_is_reading : Fun K "is_reading" "is_reading" s_is_reading f_is_reading d_is_reading
  g_is_reading : mg "is_reading" = some (.ref f_is_reading)
  b_is_reading : Binds K d_is_reading ["value", "many_things", "step"] []
  f_is_step : Addr
  d_is_step : FuncData
  F_is_step : Fun K "is_step" "is_step" s_is_step f_is_step d_is_step
  g_is_step : mg "is_step" = some (.ref f_is_step)
  b_is_step : Binds K d_is_step ["value", "many_things", "step"] []
  f_are_steps : Addr
  d_are_steps : FuncData
  F_are_steps : Fun K "are_steps" "are_steps" s_are_steps f_are_steps d_are_steps
  g_are_steps : mg "are_steps" = some (.ref f_are_steps)
  b_are_steps : Binds K d_are_steps ["value", "many_things"] []
  f_is_made : Addr
  d_is_made : FuncData
  F_is_made : Fun K "is_made" "is_made" s_is_made f_is_made d_is_made
  g_is_made : mg "is_made" = some (.ref f_is_made)
  b_is_made : Binds K d_is_made ["value", "many_steps"] []
  f_is_recipe : Addr
  d_is_recipe : FuncData
  F_is_recipe : Fun K "is_recipe" "is_recipe" s_is_recipe f_is_recipe d_is_recipe
  g_is_recipe : mg "is_recipe" = some (.ref f_is_recipe)
  b_is_recipe : Binds K d_is_recipe ["value"] []
  f_check_recipe : Addr
  d_check_recipe : FuncData
  F_check_recipe : Fun K "check_recipe" "check_recipe" s_check_recipe f_check_recipe d_check_recipe
  g_check_recipe : mg "check_recipe" = some (.ref f_check_recipe)
  b_check_recipe : Binds K d_check_recipe ["value"] []
  f_written_thing : Addr
  d_written_thing : FuncData
  F_written_thing : Fun K "written_thing" "written_thing" s_written_thing f_written_thing d_written_thing
  g_written_thing : mg "written_thing" = some (.ref f_written_thing)
  b_written_thing : Binds K d_written_thing ["thing"] []
  f_written_step : Addr
  d_written_step : FuncData
  F_written_step : Fun K "written_step" "written_step" s_written_step f_written_step d_written_step
  g_written_step : mg "written_step" = some (.ref f_written_step)
  b_written_step : Binds K d_written_step ["step"] []
  f_written : Addr
  d_written : FuncData
  F_written : Fun K "written" "written" s_written f_written d_written
  g_written : mg "written" = some (.ref f_written)
  b_written : Binds K d_written ["recipe"] []
  f_format_recipe : Addr
  d_format_recipe : FuncData
  F_format_recipe : Fun K "format_recipe" "format_recipe" s_format_recipe f_format_recipe d_format_recipe
  g_format_recipe : mg "format_recipe" = some (.ref f_format_recipe)
  b_format_recipe : Binds K d_format_recipe ["recipe"] []
  f_read_thing : Addr
  d_read_thing : FuncData
  F_read_thing : Fun K "read_thing" "read_thing" s_read_thing f_read_thing d_read_thing
  g_read_thing : mg "read_thing" = some (.ref f_read_thing)
  b_read_thing : Binds K d_read_thing ["text"] []
  f_read_number : Addr
  d_read_number : FuncData
  F_read_number : Fun K "read_number" "read_number" s_read_number f_read_number d_read_number
  g_read_number : mg "read_number" = some (.ref f_read_number)
  b_read_number : Binds K d_read_number ["text"] []
  f_read_reading : Addr
  d_read_reading : FuncData
  F_read_reading : Fun K "read_reading" "read_reading" s_read_reading f_read_reading d_read_reading
  g_read_reading : mg "read_reading" = some (.ref f_read_reading)
  b_read_reading : Binds K d_read_reading ["text"] []
  f_read_step : Addr
  d_read_step : FuncData
  F_read_step : Fun K "read_step" "read_step" s_read_step f_read_step d_read_step
  g_read_step : mg "read_step" = some (.ref f_read_step)
  b_read_step : Binds K d_read_step ["text"] []
  f_parse_recipe : Addr
  d_parse_recipe : FuncData
  F_parse_recipe : Fun K "parse_recipe" "parse_recipe" s_parse_recipe f_parse_recipe d_parse_recipe
  g_parse_recipe : mg "parse_recipe" = some (.ref f_parse_recipe)
  b_parse_recipe : Binds K d_parse_recipe ["text"] []
  f__law_cell_at : Addr
  d__law_cell_at : FuncData
  F__law_cell_at : Fun K "_law_cell_at" "_law_cell_at" s_cell_at f__law_cell_at d__law_cell_at
  g__law_cell_at : mg "_law_cell_at" = some (.ref f__law_cell_at)
  b__law_cell_at : Binds K d__law_cell_at ["_law_script", "_law_k"] []
  f__law_mixed : Addr
  d__law_mixed : FuncData
  F__law_mixed : Fun K "_law_mixed" "_law_mixed" s_mixed f__law_mixed d__law_mixed
  g__law_mixed : mg "_law_mixed" = some (.ref f__law_mixed)
  b__law_mixed : Binds K d__law_mixed ["_law_script", "_law_k", "_law_many"] []
  f__law_draw : Addr
  d__law_draw : FuncData
  F__law_draw : Fun K "_law_draw" "_law_draw" s_draw f__law_draw d__law_draw
  g__law_draw : mg "_law_draw" = some (.ref f__law_draw)
  b__law_draw : Binds K d__law_draw ["_law_script", "_law_state", "_law_many"] []
  f__law_some_of : Addr
  d__law_some_of : FuncData
  F__law_some_of : Fun K "_law_some_of" "_law_some_of" s_some_of f__law_some_of d__law_some_of
  g__law_some_of : mg "_law_some_of" = some (.ref f__law_some_of)
  b__law_some_of : Binds K d__law_some_of ["_law_script", "_law_state", "_law_some", "_law_count"] []
  f__law_pick : Addr
  d__law_pick : FuncData
  F__law_pick : Fun K "_law_pick" "_law_pick" s_pick f__law_pick d__law_pick
  g__law_pick : mg "_law_pick" = some (.ref f__law_pick)
  b__law_pick : Binds K d__law_pick ["_law_script", "_law_state", "_law_some"] []
  f__law_some_thing : Addr
  d__law_some_thing : FuncData
  F__law_some_thing : Fun K "_law_some_thing" "_law_some_thing" s_some_thing f__law_some_thing d__law_some_thing
  g__law_some_thing : mg "_law_some_thing" = some (.ref f__law_some_thing)
  b__law_some_thing : Binds K d__law_some_thing ["_law_script", "_law_state"] []
  f__law_some_step : Addr
  d__law_some_step : FuncData
  F__law_some_step : Fun K "_law_some_step" "_law_some_step" s_some_step f__law_some_step d__law_some_step
  g__law_some_step : mg "_law_some_step" = some (.ref f__law_some_step)
  b__law_some_step : Binds K d__law_some_step ["_law_script", "_law_state", "_law_things", "_law_count"] []
  f__law_some_recipe : Addr
  d__law_some_recipe : FuncData
  F__law_some_recipe : Fun K "_law_some_recipe" "_law_some_recipe" s_some_recipe f__law_some_recipe d__law_some_recipe
  g__law_some_recipe : mg "_law_some_recipe" = some (.ref f__law_some_recipe)
  b__law_some_recipe : Binds K d__law_some_recipe ["_law_script", "_law_state"] []
  f_law : Addr
  d_law : FuncData
  F_law : Fun K "law" "law" s_law f_law d_law
  g_law : mg "law" = some (.ref f_law)
  b_law : Binds K d_law ["_law_script"] []
  k_MOST_THINGS : Tok
  g_MOST_THINGS : mg "MOST_THINGS" = some (.int 5 k_MOST_THINGS)
  k_MOST_TEXTS : Tok
  g_MOST_TEXTS : mg "MOST_TEXTS" = some (.int 4 k_MOST_TEXTS)
  k_LONGEST_TEXT : Tok
  g_LONGEST_TEXT : mg "LONGEST_TEXT" = some (.int 4 k_LONGEST_TEXT)
  k_MOST_WORLDS : Tok
  g_MOST_WORLDS : mg "MOST_WORLDS" = some (.int 256 k_MOST_WORLDS)
  k_MOST_STEPS : Tok
  g_MOST_STEPS : mg "MOST_STEPS" = some (.int 8 k_MOST_STEPS)
  k_MOST_MADE : Tok
  g_MOST_MADE : mg "MOST_MADE" = some (.int 3 k_MOST_MADE)
  a_READINGS : Addr
  g_READINGS : mg "READINGS" = some (.ref a_READINGS)
  m_READINGS : KDm K w a_READINGS mREADINGS
  k_PARTS : Tok
  g_PARTS : mg "PARTS" = some (.str "; " k_PARTS)
  k_ITEMS : Tok
  g_ITEMS : mg "ITEMS" = some (.str ", " k_ITEMS)
  k_CHOICES : Tok
  g_CHOICES : mg "CHOICES" = some (.str "|" k_CHOICES)
  k_WORDS : Tok
  g_WORDS : mg "WORDS" = some (.str " " k_WORDS)
  k_EMPTY : Tok
  g_EMPTY : mg "EMPTY" = some (.str "-" k_EMPTY)
  a_SIGNS : Addr
  g_SIGNS : mg "SIGNS" = some (.ref a_SIGNS)
  m_SIGNS : KDs K w a_SIGNS mSIGNS
  a_KINDS : Addr
  g_KINDS : mg "KINDS" = some (.ref a_KINDS)
  m_KINDS : KDs K w a_KINDS mKINDS
  k_DIGITS : Tok
  g_DIGITS : mg "DIGITS" = some (.str "0123456789" k_DIGITS)
  z_len : mg "len" = none
  z_int : mg "int" = none
  z_str : mg "str" = none
  z_bool : mg "bool" = none
  z_tuple : mg "tuple" = none
  z_list : mg "list" = none
  z_isinstance : mg "isinstance" = none
  z_range : mg "range" = none
  z_min : mg "min" = none
  z_sorted : mg "sorted" = none
  z_set : mg "set" = none

def fuel : Nat := 100000
def b_is_number : FS :=
    (sRet (fAnd (fIsi isInt (fVar 0)) (fAnd (fNot (fIsi isBool (fVar 0))) (fChain (seeB (ordD .LtE)) (seeB (ordD .LtE)) (fVar 1) (fVar 0) (fVar 2)))))
def F_is_number : FF := runF 3 3 b_is_number
section
variable {P : Program} {w : World} {K : PySem.W.Frag} {mg : Str → Option Value} {base : Heap}
theorem ok_is_number (T : Tx K mg w) : FnOk P w K mg base CX0 1 T.f_is_number T.d_is_number ["value", "least", "most"] (spF ⟨K, P, w⟩ 3 F_is_number) := by
  have h : FnOk P w K mg base CX0 1 T.f_is_number T.d_is_number ["value", "least", "most"] (spF ⟨K, P, w⟩ [("value" : Str), ("least" : Str), ("most" : Str)].length (runF [("value" : Str), ("least" : Str), ("most" : Str)].length [("value" : Str), ("least" : Str), ("most" : Str)].length b_is_number)) := fn_pi (body := b_is_number) T.F_is_number sc_is_number fun cdv A outer s H E hr =>
    (b_one (s_retE (ps_ret (e_and (e_isi (T := "int") (kit_int _) (by rfl) T.z_isinstance (pa_cons (e_var (pv 0)) (pa_cons (pe_bltn (v := .ty "int") (by rfl) T.z_int (by decide +kernel) rfl) pa_nil))) (e_and (e_not (e_isi (T := "bool") (kit_bool _) (by rfl) T.z_isinstance (pa_cons (e_var (pv 0)) (pa_cons (pe_bltn (v := .ty "bool") (by rfl) T.z_bool (by decide +kernel) rfl) pa_nil)))) (pe_one (e_chain (op_ord (.inr (.inr (.inl rfl))) hr.units) (RDs.do rd_ord) (op_ord (.inr (.inr (.inl rfl))) hr.units) (RDs.do rd_ord) (e_var (pv 1)) (e_var (pv 0)) (e_var (pv 2)))))))))
  exact h
end
def b_is_tuple : FS :=
    (sRet (fAnd (fIsi isTup (fVar 0)) (fChain (seeB (ordD .LtE)) (seeB (ordD .LtE)) (fVar 1) (lenS (faCons (fVar 0) faNil)) (fVar 2))))
def F_is_tuple : FF := runF 3 3 b_is_tuple
section
variable {P : Program} {w : World} {K : PySem.W.Frag} {mg : Str → Option Value} {base : Heap}
theorem ok_is_tuple (T : Tx K mg w) : FnOk P w K mg base CX0 1 T.f_is_tuple T.d_is_tuple ["value", "least", "most"] (spF ⟨K, P, w⟩ 3 F_is_tuple) := by
  have h : FnOk P w K mg base CX0 1 T.f_is_tuple T.d_is_tuple ["value", "least", "most"] (spF ⟨K, P, w⟩ [("value" : Str), ("least" : Str), ("most" : Str)].length (runF [("value" : Str), ("least" : Str), ("most" : Str)].length [("value" : Str), ("least" : Str), ("most" : Str)].length b_is_tuple)) := fn_pi (body := b_is_tuple) T.F_is_tuple sc_is_tuple fun cdv A outer s H E hr =>
    (b_one (s_retE (ps_ret (e_and (e_isi (T := "tuple") (kit_tup _) (by rfl) T.z_isinstance (pa_cons (e_var (pv 0)) (pa_cons (pe_bltn (v := .ty "tuple") (by rfl) T.z_tuple (by decide +kernel) rfl) pa_nil))) (pe_one (e_chain (op_ord (.inr (.inr (.inl rfl))) hr.units) (RDs.do rd_ord) (op_ord (.inr (.inr (.inl rfl))) hr.units) (RDs.do rd_ord) (e_var (pv 1)) (e_len (pe_callB call_lenA (by rfl) T.z_len PySem.boot_len (a_cons (e_var (pv 0)) a_nil))) (e_var (pv 2))))))))
  exact h
end
def b_is_text : FS :=
    (sSeq (sIf (tOrF (tNotF (bT (fIsi isStr (fVar 0)))) (bT (fOp2 (seeB (ordD .Gt)) (lenS (faCons (fVar 0) faNil)) (fVar 1))))
    (sRet (fC (.bool false)))
    sNx)
    (sSeq (sFor (itTake (fVar 0)) (tgN 2) [2]
    (sIf (tOrF (bT (fOp2 (seeB (ordD .Lt)) (fVar 2) (fC (.str "a")))) (bT (fOp2 (seeB (ordD .Gt)) (fVar 2) (fC (.str "z")))))
    (sRet (fC (.bool false)))
    sNx))
    (sRet (fC (.bool true)))))
def F_is_text : FF := runF 3 2 b_is_text
section
variable {P : Program} {w : World} {K : PySem.W.Frag} {mg : Str → Option Value} {base : Heap}
theorem ok_is_text (T : Tx K mg w) : FnOk P w K mg base CX0 1 T.f_is_text T.d_is_text ["value", "longest"] (spF ⟨K, P, w⟩ 2 F_is_text) := by
  have h : FnOk P w K mg base CX0 1 T.f_is_text T.d_is_text ["value", "longest"] (spF ⟨K, P, w⟩ [("value" : Str), ("longest" : Str)].length (runF [("value" : Str), ("longest" : Str), ("letter" : Str)].length [("value" : Str), ("longest" : Str)].length b_is_text)) := fn_pi (body := b_is_text) T.F_is_text sc_is_text fun cdv A outer s H E hr =>
    (b_cons (s_ite (PW.pt (w_or (t_not (t_val (e_isi (T := "str") (kit_str _) (by rfl) T.z_isinstance (pa_cons (e_var (pv 0)) (pa_cons (pe_bltn (v := .ty "str") (by rfl) T.z_str (by decide +kernel) rfl) pa_nil))))) (pw_or1 (t_cmp (op_ord (.inr (.inl rfl)) hr.units) (RDs.do rd_ord) (e_len (pe_callB call_lenA (by rfl) T.z_len PySem.boot_len (a_cons (e_var (pv 0)) a_nil))) (e_var (pv 1)) (nomark _)))))
    (b_one (s_retE (ps_ret e_bl)))
    b_nil)
    (b_cons (s_for (wp := [2]) (gd_name (i := 2)) (ps_for PassesOwn.never rfl (i_for (e_var (pv 0))) (pg_name (i := 2) sc_is_text.nd rfl (Or.inl rfl))
    (b_one (s_ite (PW.pt (w_or (t_cmp (op_ord (.inl rfl) hr.units) (RDs.do rd_ord) (e_var (pv 2)) e_str (nomark _)) (pw_or1 (t_cmp (op_ord (.inr (.inl rfl)) hr.units) (RDs.do rd_ord) (e_var (pv 2)) e_str (nomark _)))))
    (b_one (s_retE (ps_ret e_bl)))
    b_nil))))
    (b_one (s_retE (ps_ret e_bl)))))
  exact h
end
def b_is_ascending : FS :=
    (sSeq (sFor (itRng2 (faCons (fC (.int 1)) (faCons (lenS (faCons (fVar 0) faNil)) faNil))) (tgN 1) [1]
    (sIf (bT (fOp2 (seeB (ordD .GtE)) (fOp2 (seeB ixD) (fVar 0) (fOp2 (seeB subD) (fVar 1) (fC (.int 1)))) (fOp2 (seeB ixD) (fVar 0) (fVar 1))))
    (sRet (fC (.bool false)))
    sNx))
    (sRet (fC (.bool true))))
def F_is_ascending : FF := runF 2 1 b_is_ascending
section
variable {P : Program} {w : World} {K : PySem.W.Frag} {mg : Str → Option Value} {base : Heap}
theorem ok_is_ascending (T : Tx K mg w) : FnOk P w K mg base CX0 1 T.f_is_ascending T.d_is_ascending ["values"] (spF ⟨K, P, w⟩ 1 F_is_ascending) := by
  have h : FnOk P w K mg base CX0 1 T.f_is_ascending T.d_is_ascending ["values"] (spF ⟨K, P, w⟩ [("values" : Str)].length (runF [("values" : Str), ("at" : Str)].length [("values" : Str)].length b_is_ascending)) := fn_pi (body := b_is_ascending) T.F_is_ascending sc_is_ascending fun cdv A outer s H E hr =>
    (b_cons (s_for (wp := [1]) (gd_name (i := 1)) (ps_for PassesOwn.never rfl (i_rng2 (pi_range2 (by rfl) T.z_range (a_cons e_int (a_cons (e_len (pe_callB call_lenA (by rfl) T.z_len PySem.boot_len (a_cons (e_var (pv 0)) a_nil))) a_nil)))) (pg_name (i := 1) sc_is_ascending.nd rfl (Or.inl rfl))
    (b_one (s_ite (t_cmp (op_ord (.inr (.inr (.inr rfl))) hr.units) (RDs.do rd_ord) (e_ix ix_seq (RDs.do rd_ixD) (e_var (pv 0)) (e_op op_sub (RDs.do rd_subD) (e_var (pv 1)) e_int) (fun _ _ => rfl)) (e_ix ix_seq (RDs.do rd_ixD) (e_var (pv 0)) (e_var (pv 1)) (fun _ _ => rfl)) (nomark _))
    (b_one (s_retE (ps_ret e_bl)))
    b_nil))))
    (b_one (s_retE (ps_ret e_bl))))
  exact h
end
def b_written_thing : FS :=
    (sRet (fMt "str" joinG (fC (.str "|")) (faCons (fLc (itSee (fVar 0)) (tgN 1) [1] tT (fIf (bT (fOp2 (seeB (eqD false)) (fVar 1) (fC (.str "")))) (fC (.str "-")) (fVar 1))) faNil)))
def F_written_thing : FF := runF 2 1 b_written_thing
section
variable {P : Program} {w : World} {K : PySem.W.Frag} {mg : Str → Option Value} {base : Heap}
theorem ok_written_thing (T : Tx K mg w) : FnOk P w K mg base CX0 1 T.f_written_thing T.d_written_thing ["thing"] (spF ⟨K, P, w⟩ 1 F_written_thing) := by
  have h : FnOk P w K mg base CX0 1 T.f_written_thing T.d_written_thing ["thing"] (spF ⟨K, P, w⟩ [("thing" : Str)].length (runF [("thing" : Str), ("text" : Str)].length [("thing" : Str)].length b_written_thing)) := fn_pi (body := b_written_thing) T.F_written_thing sc_written_thing fun cdv A outer s H E hr =>
    (b_one (s_retE (ps_ret (e_mt md_join (pe_bm PySem.F.plainAttrs_str PySem.F.slot_str_join PySem.F.type_str_join mt_join (e_cst (pe_glob (v := .str "|") (by rfl) T.g_CHOICES ⟨_, rfl⟩) (fun _ => .str _)) (a_cons (e_lc (gd_name (i := 1)) (by decide) (pe_lc (own := [("text", 1)]) rfl sc_written_thing.nd (i_lc (e_var (pv 0))) (blkOk_by (own := [("text", 1)]) (N := ["thing", "text"]) (sc := defScope s_written_thing) (by decide +kernel)) (fun _ _ _ _ _ => (pg_name (i := 1) sc_written_thing.nd rfl (Or.inl rfl))) (fun _ _ _ _ _ => pts_yes) (fun _ _ _ _ _ => (e_if (t_cmp (op_eqA hr.units) (RDs.do rd_eqD') (e_var (pv 1)) e_str (nomark _)) (e_cst (pe_glob (v := .str "-") (by rfl) T.g_EMPTY ⟨_, rfl⟩) (fun _ => .str _)) (e_var (pv 1)))))) a_nil))))))
  exact h
end
def b_written_step : FS :=
    (sSeq (sAsgT (tgT [(tgN 1), (tgN 2)]) (fVar 0))
    (sRet (fMt "str" joinG (fC (.str " ")) (faCons (fOp2 addL (fLst (faCons (fVar 1) faNil)) (fLc (itSee (fVar 2)) (tgT [(tgN 3), (tgN 4)]) [3, 4] tT (fOp2 addL (fIxS mSIGNS (fVar 3)) (fBi (see1 strIG) (faCons (fVar 4) faNil))))) faNil))))
def F_written_step : FF := runF 5 1 b_written_step
section
variable {P : Program} {w : World} {K : PySem.W.Frag} {mg : Str → Option Value} {base : Heap}
theorem ok_written_step (T : Tx K mg w) : FnOk P w K mg base CX0 1 T.f_written_step T.d_written_step ["step"] (spF ⟨K, P, w⟩ 1 F_written_step) := by
  have h : FnOk P w K mg base CX0 1 T.f_written_step T.d_written_step ["step"] (spF ⟨K, P, w⟩ [("step" : Str)].length (runF [("step" : Str), ("operation" : Str), ("reads" : Str), ("word" : Str), ("number" : Str)].length [("step" : Str)].length b_written_step)) := fn_pi (body := b_written_step) T.F_written_step sc_written_step fun cdv A outer s H E hr =>
    (b_cons (s_setT (gd_tup (gds_cons (gd_name (i := 1)) (gds_cons (gd_name (i := 2)) gds_nil)) rfl) (ps_asg (e_var (pv 0)) (pg_tup rfl (pgs_cons (pg_name (i := 1) sc_written_step.nd rfl (Or.inl rfl)) (pgs_cons (pg_name (i := 2) sc_written_step.nd rfl (Or.inl rfl)) pgs_nil)))))
    (b_one (s_retE (ps_ret (e_mt md_join (pe_bm PySem.F.plainAttrs_str PySem.F.slot_str_join PySem.F.type_str_join mt_join (e_cst (pe_glob (v := .str " ") (by rfl) T.g_WORDS ⟨_, rfl⟩) (fun _ => .str _)) (a_cons (e_op op_addA rd_add2 (e_lst (a_cons (e_var (pv 1)) a_nil)) (e_lc (gd_tup (gds_cons (gd_name (i := 3)) (gds_cons (gd_name (i := 4)) gds_nil)) rfl) (by decide) (pe_lc (own := [("word", 3), ("number", 4)]) rfl sc_written_step.nd (i_lc (e_var (pv 2))) (blkOk_by (own := [("word", 3), ("number", 4)]) (N := ["step", "operation", "reads", "word", "number"]) (sc := defScope s_written_step) (by decide +kernel)) (fun _ _ _ _ _ => (pg_tup rfl (pgs_cons (pg_name (i := 3) sc_written_step.nd rfl (Or.inl rfl)) (pgs_cons (pg_name (i := 4) sc_written_step.nd rfl (Or.inl rfl)) pgs_nil)))) (fun _ _ _ _ _ => pts_yes) (fun _ _ _ _ _ => (e_op op_addA rd_add2 (e_ixS T.m_SIGNS (pe_ix ix_ds (pe_glob (v := .ref T.a_SIGNS) (by rfl) T.g_SIGNS rfl) (e_var (pv 3)) (fun _ _ => rfl))) (e_ty call_str_int cd_strI (by rfl) T.z_str (by decide +kernel) (a_cons (e_var (pv 4)) a_nil))))))) a_nil)))))))
  exact h
end
def b_read_thing : FS :=
    (sRet (fBi (see1 tupG) (faCons (fLc (itSee (fMt "str" splitG (fVar 0) (faCons (fC (.str "|")) faNil))) (tgN 1) [1] tT (fIf (bT (fOp2 (seeB (eqD false)) (fVar 1) (fC (.str "-")))) (fC (.str "")) (fVar 1))) faNil)))
def F_read_thing : FF := runF 2 1 b_read_thing
section
variable {P : Program} {w : World} {K : PySem.W.Frag} {mg : Str → Option Value} {base : Heap}
theorem ok_read_thing (T : Tx K mg w) : FnOk P w K mg base CX0 1 T.f_read_thing T.d_read_thing ["text"] (spF ⟨K, P, w⟩ 1 F_read_thing) := by
  have h : FnOk P w K mg base CX0 1 T.f_read_thing T.d_read_thing ["text"] (spF ⟨K, P, w⟩ [("text" : Str)].length (runF [("text" : Str), ("word" : Str)].length [("text" : Str)].length b_read_thing)) := fn_pi (body := b_read_thing) T.F_read_thing sc_read_thing fun cdv A outer s H E hr =>
    (b_one (s_retE (ps_ret (e_ty call_tuple_of cd_tup (by rfl) T.z_tuple (by decide +kernel) (a_cons (e_lc (gd_name (i := 1)) (by decide) (pe_lc (own := [("word", 1)]) rfl sc_read_thing.nd (i_lc (e_mt md_split (pe_bm PySem.F.plainAttrs_str PySem.F.slot_str_split PySem.F.type_str_split mt_split (e_var (pv 0)) (a_cons (e_cst (pe_glob (v := .str "|") (by rfl) T.g_CHOICES ⟨_, rfl⟩) (fun _ => .str _)) a_nil)))) (blkOk_by (own := [("word", 1)]) (N := ["text", "word"]) (sc := defScope s_read_thing) (by decide +kernel)) (fun _ _ _ _ _ => (pg_name (i := 1) sc_read_thing.nd rfl (Or.inl rfl))) (fun _ _ _ _ _ => pts_yes) (fun _ _ _ _ _ => (e_if (t_cmp (op_eqA hr.units) (RDs.do rd_eqD') (e_var (pv 1)) (e_cst (pe_glob (v := .str "-") (by rfl) T.g_EMPTY ⟨_, rfl⟩) (fun _ => .str _)) (nomark _)) e_str (e_var (pv 1)))))) a_nil)))))
  exact h
end
def b_read_number : FS :=
    (sSeq (sIf (tOrF (bT (fOp2 (seeB (eqD true)) (lenS (faCons (fVar 0) faNil)) (fC (.int 1)))) (bT (fOp2 (seeB (inSD true)) (fVar 0) (fC (.str "0123456789")))))
    sNever
    sNx)
    (sRet (fBi (see1 intSG) (faCons (fVar 0) faNil))))
def F_read_number : FF := runF 1 1 b_read_number
section
variable {P : Program} {w : World} {K : PySem.W.Frag} {mg : Str → Option Value} {base : Heap}
theorem ok_read_number (T : Tx K mg w) : FnOk P w K mg base CX0 1 T.f_read_number T.d_read_number ["text"] (spF ⟨K, P, w⟩ 1 F_read_number) := by
  have h : FnOk P w K mg base CX0 1 T.f_read_number T.d_read_number ["text"] (spF ⟨K, P, w⟩ [("text" : Str)].length (runF [("text" : Str)].length [("text" : Str)].length b_read_number)) := fn_pi (body := b_read_number) T.F_read_number sc_read_number fun cdv A outer s H E hr =>
    (b_cons (s_ite (PW.pt (w_or (t_cmp (op_neA hr.units) (RDs.do rd_neD') (e_len (pe_callB call_lenA (by rfl) T.z_len PySem.boot_len (a_cons (e_var (pv 0)) a_nil))) e_int (nomark _)) (pw_or1 (t_cmp op_notin_str (RDs.do rd_notInS) (e_var (pv 0)) (e_cst (pe_glob (v := .str "0123456789") (by rfl) T.g_DIGITS ⟨_, rfl⟩) (fun _ => .str _)) (by rfl)))))
    (b_one s_never)
    b_nil)
    (b_one (s_retE (ps_ret (e_ty call_int_str cd_intS (by rfl) T.z_int (by decide +kernel) (a_cons (e_var (pv 0)) a_nil))))))
  exact h
end
def b_cell_at : FS :=
    (sSeq (sIf (bT (fOp2 (seeB (ordD .Lt)) (fVar 1) (lenS (faCons (fVar 0) faNil))))
    (sRet (fOp2 (seeB ixD) (fVar 0) (fVar 1)))
    sNx)
    (sSeq (sIf (bT (fOp2 (seeB (eqD false)) (fVar 0) (fLst faNil)))
    (sRet (fC (.int 0)))
    sNx)
    (sSeq (sAsg 2 (fOp2 (seeB ixD) (fVar 0) (fOp2 (seeB modD) (fVar 1) (lenS (faCons (fVar 0) faNil)))))
    (sSeq (sFor (itRng1 (faCons (fBi minAG (faCons (fOp2 (seeB fdivD) (fVar 1) (lenS (faCons (fVar 0) faNil))) (faCons (fC (.int 60)) faNil))) faNil)) (tgN 3) [3]
    (sAsg 2 (fOp2 (seeB fdivD) (fVar 2) (fC (.int 1000003)))))
    (sFrz [2] (sRet (fOp2 addL (fOp2 addL (fOp2 (seeB mulD) (fOp2 (seeB ixD) (fVar 0) (fOp2 (seeB modD) (fVar 1) (lenS (faCons (fVar 0) faNil)))) (fC (.int 31))) (fVar 1)) (fOp2 (seeB mulD) (fVar 2) (fC (.int 101))))))))))
def F_cell_at : FF := runF 4 2 b_cell_at
section
variable {P : Program} {w : World} {K : PySem.W.Frag} {mg : Str → Option Value} {base : Heap}
theorem ok_cell_at (T : Tx K mg w) : FnOk P w K mg base CX0 1 T.f__law_cell_at T.d__law_cell_at ["_law_script", "_law_k"] (spF ⟨K, P, w⟩ 2 F_cell_at) := by
  have h : FnOk P w K mg base CX0 1 T.f__law_cell_at T.d__law_cell_at ["_law_script", "_law_k"] (spF ⟨K, P, w⟩ [("_law_script" : Str), ("_law_k" : Str)].length (runF [("_law_script" : Str), ("_law_k" : Str), ("_law_spare" : Str), ("_law_again" : Str)].length [("_law_script" : Str), ("_law_k" : Str)].length b_cell_at)) := fn_pi (body := b_cell_at) T.F__law_cell_at sc_cell_at fun cdv A outer s H E hr =>
    (b_cons (s_ite (t_cmp (op_ord (.inl rfl) hr.units) (RDs.do rd_ord) (e_var (pv 1)) (e_len (pe_callB call_lenA (by rfl) T.z_len PySem.boot_len (a_cons (e_var (pv 0)) a_nil))) (nomark _))
    (b_one (s_retE (ps_ret (e_ix ix_seq (RDs.do rd_ixD) (e_var (pv 0)) (e_var (pv 1)) (fun _ _ => rfl)))))
    b_nil)
    (b_cons (s_ite (t_cmp (op_eqA hr.units) (RDs.do rd_eqD') (e_var (pv 0)) (e_lst a_nil) (nomark _))
    (b_one (s_retE (ps_ret e_int)))
    b_nil)
    (b_cons (s_set (ps_set (i := 2) sc_cell_at.nd rfl (Or.inl rfl) (e_ix ix_seq (RDs.do rd_ixD) (e_var (pv 0)) (e_op op_modN (RDs.do rd_modD) (e_var (pv 1)) (e_len (pe_callB call_lenA (by rfl) T.z_len PySem.boot_len (a_cons (e_var (pv 0)) a_nil)))) (fun _ _ => rfl))))
    (b_cons (s_for (wp := [3]) (gd_name (i := 3)) (ps_for PassesOwn.never rfl (i_rng1 (pi_range1 (by rfl) T.z_range (a_cons (e_bi (call_minA rfl) cd_minA (by rfl) T.z_min PyProof.Rows.boot_min (a_cons (e_op op_fdivN (RDs.do rd_fdivD) (e_var (pv 1)) (e_len (pe_callB call_lenA (by rfl) T.z_len PySem.boot_len (a_cons (e_var (pv 0)) a_nil)))) (a_cons e_int a_nil))) a_nil))) (pg_name (i := 3) sc_cell_at.nd rfl (Or.inl rfl))
    (b_one (s_set (ps_set (i := 2) sc_cell_at.nd rfl (Or.inl rfl) (e_op op_fdivN (RDs.do rd_fdivD) (e_var (pv 2)) e_int))))))
    (b_one (s_frz (is := [2]) (s_retE (ps_ret (e_op op_addA rd_add2 (e_op op_addA rd_add2 (e_op op_mulA (RDs.do rd_mulD) (e_ix ix_seq (RDs.do rd_ixD) (e_var (pv 0)) (e_op op_modN (RDs.do rd_modD) (e_var (pv 1)) (e_len (pe_callB call_lenA (by rfl) T.z_len PySem.boot_len (a_cons (e_var (pv 0)) a_nil)))) (fun _ _ => rfl)) e_int) (e_var (pv 1))) (e_op op_mulA (RDs.do rd_mulD) (e_var (pv 2)) e_int))))))))))
  exact h
end
def b_is_thing : FS :=
    (sSeq (sIf (tNotF (bT (fCall 3 F_is_tuple (faCons (fVar 0) (faCons (fC (.int 1)) (faCons (fC (.int 4)) faNil))))))
    (sRet (fC (.bool false)))
    sNx)
    (sSeq (sFor (itTake (fVar 0)) (tgN 1) [1]
    (sIf (tNotF (bT (fCall 2 F_is_text (faCons (fVar 1) (faCons (fC (.int 4)) faNil)))))
    (sRet (fC (.bool false)))
    sNx))
    (sRet (fCall 1 F_is_ascending (faCons (fVar 0) faNil)))))
def F_is_thing : FF := runF 2 1 b_is_thing
section
variable {P : Program} {w : World} {K : PySem.W.Frag} {mg : Str → Option Value} {base : Heap}
theorem ok_is_thing (T : Tx K mg w) : FnOk P w K mg base CX0 2 T.f_is_thing T.d_is_thing ["value"] (spF ⟨K, P, w⟩ 1 F_is_thing) := by
  have G_is_tuple := ok_is_tuple (P := P) (base := base) T
  have G_is_text := ok_is_text (P := P) (base := base) T
  have G_is_ascending := ok_is_ascending (P := P) (base := base) T
  have h : FnOk P w K mg base CX0 2 T.f_is_thing T.d_is_thing ["value"] (spF ⟨K, P, w⟩ [("value" : Str)].length (runF [("value" : Str), ("text" : Str)].length [("value" : Str)].length b_is_thing)) := fn_pi (body := b_is_thing) T.F_is_thing sc_is_thing fun cdv A outer s H E hr =>
    (b_cons (s_ite (t_not (t_val (e_call G_is_tuple hr (by rfl) T.g_is_tuple T.F_is_tuple.kp T.b_is_tuple (a_cons (e_var (pv 0)) (a_cons e_int (a_cons (e_cst (pe_glob (v := .int 4) (by rfl) T.g_MOST_TEXTS ⟨_, rfl⟩) (fun _ => .int _)) a_nil))))))
    (b_one (s_retE (ps_ret e_bl)))
    b_nil)
    (b_cons (s_for (wp := [1]) (gd_name (i := 1)) (ps_for PassesOwn.never rfl (i_for (e_var (pv 0))) (pg_name (i := 1) sc_is_thing.nd rfl (Or.inl rfl))
    (b_one (s_ite (t_not (t_val (e_call G_is_text hr (by rfl) T.g_is_text T.F_is_text.kp T.b_is_text (a_cons (e_var (pv 1)) (a_cons (e_cst (pe_glob (v := .int 4) (by rfl) T.g_LONGEST_TEXT ⟨_, rfl⟩) (fun _ => .int _)) a_nil)))))
    (b_one (s_retE (ps_ret e_bl)))
    b_nil))))
    (b_one (s_retE (ps_ret (e_call G_is_ascending hr (by rfl) T.g_is_ascending T.F_is_ascending.kp T.b_is_ascending (a_cons (e_var (pv 0)) a_nil)))))))
  exact h
end
def b_is_reading : FS :=
    (sSeq (sIf (tNotF (bT (fCall 3 F_is_tuple (faCons (fVar 0) (faCons (fC (.int 2)) (faCons (fC (.int 2)) faNil))))))
    (sRet (fC (.bool false)))
    sNx)
    (sSeq (sAsgT (tgT [(tgN 3), (tgN 4)]) (fVar 0))
    (sSeq (sIf (tNotF (bT (fIsi isStr (fVar 3))))
    (sRet (fC (.bool false)))
    sNx)
    (sSeq (sIf (bT (fOp2 (seeB (eqD false)) (fVar 3) (fC (.str "thing"))))
    (sRet (fCall 3 F_is_number (faCons (fVar 4) (faCons (fC (.int 0)) (faCons (fOp2 (seeB subD) (fVar 1) (fC (.int 1))) faNil)))))
    sNx)
    (sRet (fAnd (fOp2 (seeB (eqD false)) (fVar 3) (fC (.str "step"))) (fCall 3 F_is_number (faCons (fVar 4) (faCons (fC (.int 0)) (faCons (fOp2 (seeB subD) (fVar 2) (fC (.int 1))) faNil))))))))))
def F_is_reading : FF := runF 5 3 b_is_reading
section
variable {P : Program} {w : World} {K : PySem.W.Frag} {mg : Str → Option Value} {base : Heap}
theorem ok_is_reading (T : Tx K mg w) : FnOk P w K mg base CX0 2 T.f_is_reading T.d_is_reading ["value", "many_things", "step"] (spF ⟨K, P, w⟩ 3 F_is_reading) := by
  have G_is_tuple := ok_is_tuple (P := P) (base := base) T
  have G_is_number := ok_is_number (P := P) (base := base) T
  have h : FnOk P w K mg base CX0 2 T.f_is_reading T.d_is_reading ["value", "many_things", "step"] (spF ⟨K, P, w⟩ [("value" : Str), ("many_things" : Str), ("step" : Str)].length (runF [("value" : Str), ("many_things" : Str), ("step" : Str), ("word" : Str), ("number" : Str)].length [("value" : Str), ("many_things" : Str), ("step" : Str)].length b_is_reading)) := fn_pi (body := b_is_reading) T.F_is_reading sc_is_reading fun cdv A outer s H E hr =>
    (b_cons (s_ite (t_not (t_val (e_call G_is_tuple hr (by rfl) T.g_is_tuple T.F_is_tuple.kp T.b_is_tuple (a_cons (e_var (pv 0)) (a_cons e_int (a_cons e_int a_nil))))))
    (b_one (s_retE (ps_ret e_bl)))
    b_nil)
    (b_cons (s_setT (gd_tup (gds_cons (gd_name (i := 3)) (gds_cons (gd_name (i := 4)) gds_nil)) rfl) (ps_asg (e_var (pv 0)) (pg_tup rfl (pgs_cons (pg_name (i := 3) sc_is_reading.nd rfl (Or.inl rfl)) (pgs_cons (pg_name (i := 4) sc_is_reading.nd rfl (Or.inl rfl)) pgs_nil)))))
    (b_cons (s_ite (t_not (t_val (e_isi (T := "str") (kit_str _) (by rfl) T.z_isinstance (pa_cons (e_var (pv 3)) (pa_cons (pe_bltn (v := .ty "str") (by rfl) T.z_str (by decide +kernel) rfl) pa_nil)))))
    (b_one (s_retE (ps_ret e_bl)))
    b_nil)
    (b_cons (s_ite (t_cmp (op_eqA hr.units) (RDs.do rd_eqD') (e_var (pv 3)) e_str (nomark _))
    (b_one (s_retE (ps_ret (e_call G_is_number hr (by rfl) T.g_is_number T.F_is_number.kp T.b_is_number (a_cons (e_var (pv 4)) (a_cons e_int (a_cons (e_op op_sub (RDs.do rd_subD) (e_var (pv 1)) e_int) a_nil)))))))
    b_nil)
    (b_one (s_retE (ps_ret (e_and (e_cmp (op_eqA hr.units) (RDs.do rd_eqD') (e_var (pv 3)) e_str (nomark _)) (pe_one (e_call G_is_number hr (by rfl) T.g_is_number T.F_is_number.kp T.b_is_number (a_cons (e_var (pv 4)) (a_cons e_int (a_cons (e_op op_sub (RDs.do rd_subD) (e_var (pv 2)) e_int) a_nil)))))))))))))
  exact h
end
def b_is_made : FS :=
    (sSeq (sIf (tNotF (bT (fCall 3 F_is_tuple (faCons (fVar 0) (faCons (fC (.int 1)) (faCons (fC (.int 3)) faNil))))))
    (sRet (fC (.bool false)))
    sNx)
    (sSeq (sFor (itTake (fVar 0)) (tgN 2) [2]
    (sIf (tNotF (bT (fCall 3 F_is_number (faCons (fVar 2) (faCons (fC (.int 0)) (faCons (fOp2 (seeB subD) (fVar 1) (fC (.int 1))) faNil))))))
    (sRet (fC (.bool false)))
    sNx))
    (sRet (fCall 1 F_is_ascending (faCons (fVar 0) faNil)))))
def F_is_made : FF := runF 3 2 b_is_made
section
variable {P : Program} {w : World} {K : PySem.W.Frag} {mg : Str → Option Value} {base : Heap}
theorem ok_is_made (T : Tx K mg w) : FnOk P w K mg base CX0 2 T.f_is_made T.d_is_made ["value", "many_steps"] (spF ⟨K, P, w⟩ 2 F_is_made) := by
  have G_is_tuple := ok_is_tuple (P := P) (base := base) T
  have G_is_number := ok_is_number (P := P) (base := base) T
  have G_is_ascending := ok_is_ascending (P := P) (base := base) T
  have h : FnOk P w K mg base CX0 2 T.f_is_made T.d_is_made ["value", "many_steps"] (spF ⟨K, P, w⟩ [("value" : Str), ("many_steps" : Str)].length (runF [("value" : Str), ("many_steps" : Str), ("number" : Str)].length [("value" : Str), ("many_steps" : Str)].length b_is_made)) := fn_pi (body := b_is_made) T.F_is_made sc_is_made fun cdv A outer s H E hr =>
    (b_cons (s_ite (t_not (t_val (e_call G_is_tuple hr (by rfl) T.g_is_tuple T.F_is_tuple.kp T.b_is_tuple (a_cons (e_var (pv 0)) (a_cons e_int (a_cons (e_cst (pe_glob (v := .int 3) (by rfl) T.g_MOST_MADE ⟨_, rfl⟩) (fun _ => .int _)) a_nil))))))
    (b_one (s_retE (ps_ret e_bl)))
    b_nil)
    (b_cons (s_for (wp := [2]) (gd_name (i := 2)) (ps_for PassesOwn.never rfl (i_for (e_var (pv 0))) (pg_name (i := 2) sc_is_made.nd rfl (Or.inl rfl))
    (b_one (s_ite (t_not (t_val (e_call G_is_number hr (by rfl) T.g_is_number T.F_is_number.kp T.b_is_number (a_cons (e_var (pv 2)) (a_cons e_int (a_cons (e_op op_sub (RDs.do rd_subD) (e_var (pv 1)) e_int) a_nil))))))
    (b_one (s_retE (ps_ret e_bl)))
    b_nil))))
    (b_one (s_retE (ps_ret (e_call G_is_ascending hr (by rfl) T.g_is_ascending T.F_is_ascending.kp T.b_is_ascending (a_cons (e_var (pv 0)) a_nil)))))))
  exact h
end
def b_written : FS :=
    (sSeq (sAsgT (tgT [(tgN 1), (tgN 2), (tgN 3)]) (fVar 0))
    (sRet (fMt "str" joinG (fC (.str "; ")) (faCons (fLst (faCons (fMt "str" joinG (fC (.str ", ")) (faCons (fLc (itSee (fVar 1)) (tgN 4) [4] tT (fCall 1 F_written_thing (faCons (fVar 4) faNil))) faNil)) (faCons (fMt "str" joinG (fC (.str ", ")) (faCons (fLc (itSee (fVar 2)) (tgN 5) [5] tT (fCall 1 F_written_step (faCons (fVar 5) faNil))) faNil)) (faCons (fMt "str" joinG (fC (.str ", ")) (faCons (fLc (itSee (fVar 3)) (tgN 6) [6] tT (fBi (see1 strIG) (faCons (fVar 6) faNil))) faNil)) faNil)))) faNil))))
def F_written : FF := runF 7 1 b_written
section
variable {P : Program} {w : World} {K : PySem.W.Frag} {mg : Str → Option Value} {base : Heap}
theorem ok_written (T : Tx K mg w) : FnOk P w K mg base CX0 2 T.f_written T.d_written ["recipe"] (spF ⟨K, P, w⟩ 1 F_written) := by
  have G_written_step := ok_written_step (P := P) (base := base) T
  have G_written_thing := ok_written_thing (P := P) (base := base) T
  have h : FnOk P w K mg base CX0 2 T.f_written T.d_written ["recipe"] (spF ⟨K, P, w⟩ [("recipe" : Str)].length (runF [("recipe" : Str), ("things" : Str), ("steps" : Str), ("made" : Str), ("thing" : Str), ("step" : Str), ("number" : Str)].length [("recipe" : Str)].length b_written)) := fn_pi (body := b_written) T.F_written sc_written fun cdv A outer s H E hr =>
    (b_cons (s_setT (gd_tup (gds_cons (gd_name (i := 1)) (gds_cons (gd_name (i := 2)) (gds_cons (gd_name (i := 3)) gds_nil))) rfl) (ps_asg (e_var (pv 0)) (pg_tup rfl (pgs_cons (pg_name (i := 1) sc_written.nd rfl (Or.inl rfl)) (pgs_cons (pg_name (i := 2) sc_written.nd rfl (Or.inl rfl)) (pgs_cons (pg_name (i := 3) sc_written.nd rfl (Or.inl rfl)) pgs_nil))))))
    (b_one (s_retE (ps_ret (e_mt md_join (pe_bm PySem.F.plainAttrs_str PySem.F.slot_str_join PySem.F.type_str_join mt_join (e_cst (pe_glob (v := .str "; ") (by rfl) T.g_PARTS ⟨_, rfl⟩) (fun _ => .str _)) (a_cons (e_lst (a_cons (e_mt md_join (pe_bm PySem.F.plainAttrs_str PySem.F.slot_str_join PySem.F.type_str_join mt_join (e_cst (pe_glob (v := .str ", ") (by rfl) T.g_ITEMS ⟨_, rfl⟩) (fun _ => .str _)) (a_cons (e_lc (gd_name (i := 4)) (by decide) (pe_lc (own := [("thing", 4)]) rfl sc_written.nd (i_lc (e_var (pv 1))) (blkOk_by (own := [("thing", 4)]) (N := ["recipe", "things", "steps", "made", "thing", "step", "number"]) (sc := defScope s_written) (by decide +kernel)) (fun _ _ _ _ _ => (pg_name (i := 4) sc_written.nd rfl (Or.inl rfl))) (fun _ _ _ _ _ => pts_yes) (fun _ _ _ _ _ => (e_call G_written_thing hr (by rfl) T.g_written_thing T.F_written_thing.kp T.b_written_thing (a_cons (e_var (pv 4)) a_nil))))) a_nil))) (a_cons (e_mt md_join (pe_bm PySem.F.plainAttrs_str PySem.F.slot_str_join PySem.F.type_str_join mt_join (e_cst (pe_glob (v := .str ", ") (by rfl) T.g_ITEMS ⟨_, rfl⟩) (fun _ => .str _)) (a_cons (e_lc (gd_name (i := 5)) (by decide) (pe_lc (own := [("step", 5)]) rfl sc_written.nd (i_lc (e_var (pv 2))) (blkOk_by (own := [("step", 5)]) (N := ["recipe", "things", "steps", "made", "thing", "step", "number"]) (sc := defScope s_written) (by decide +kernel)) (fun _ _ _ _ _ => (pg_name (i := 5) sc_written.nd rfl (Or.inl rfl))) (fun _ _ _ _ _ => pts_yes) (fun _ _ _ _ _ => (e_call G_written_step hr (by rfl) T.g_written_step T.F_written_step.kp T.b_written_step (a_cons (e_var (pv 5)) a_nil))))) a_nil))) (a_cons (e_mt md_join (pe_bm PySem.F.plainAttrs_str PySem.F.slot_str_join PySem.F.type_str_join mt_join (e_cst (pe_glob (v := .str ", ") (by rfl) T.g_ITEMS ⟨_, rfl⟩) (fun _ => .str _)) (a_cons (e_lc (gd_name (i := 6)) (by decide) (pe_lc (own := [("number", 6)]) rfl sc_written.nd (i_lc (e_var (pv 3))) (blkOk_by (own := [("number", 6)]) (N := ["recipe", "things", "steps", "made", "thing", "step", "number"]) (sc := defScope s_written) (by decide +kernel)) (fun _ _ _ _ _ => (pg_name (i := 6) sc_written.nd rfl (Or.inl rfl))) (fun _ _ _ _ _ => pts_yes) (fun _ _ _ _ _ => (e_ty call_str_int cd_strI (by rfl) T.z_str (by decide +kernel) (a_cons (e_var (pv 6)) a_nil))))) a_nil))) a_nil)))) a_nil)))))))
  exact h
end
def b_read_reading : FS :=
    (sSeq (sIf (bT (fInS mKINDS (fSl (fVar 0) oNone (oSome (fC (.int 1))))))
    sNever
    sNx)
    (sRet (fTup (faCons (fIxS mKINDS (fSl (fVar 0) oNone (oSome (fC (.int 1))))) (faCons (fCall 1 F_read_number (faCons (fSl (fVar 0) (oSome (fC (.int 1))) oNone) faNil)) faNil)))))
def F_read_reading : FF := runF 1 1 b_read_reading
section
variable {P : Program} {w : World} {K : PySem.W.Frag} {mg : Str → Option Value} {base : Heap}
theorem ok_read_reading (T : Tx K mg w) : FnOk P w K mg base CX0 2 T.f_read_reading T.d_read_reading ["text"] (spF ⟨K, P, w⟩ 1 F_read_reading) := by
  have G_read_number := ok_read_number (P := P) (base := base) T
  have h : FnOk P w K mg base CX0 2 T.f_read_reading T.d_read_reading ["text"] (spF ⟨K, P, w⟩ [("text" : Str)].length (runF [("text" : Str)].length [("text" : Str)].length b_read_reading)) := fn_pi (body := b_read_reading) T.F_read_reading sc_read_reading fun cdv A outer s H E hr =>
    (b_cons (s_ite (t_notInS T.m_KINDS (pt_cmpR op_notInDs (e_sl (e_var (pv 0)) o_none (o_some e_int)) (pe_glob (v := .ref T.a_KINDS) (by rfl) T.g_KINDS rfl) (by rfl)))
    (b_one s_never)
    b_nil)
    (b_one (s_retE (ps_ret (e_tup (a_cons (e_ixS T.m_KINDS (pe_ix ix_ds (pe_glob (v := .ref T.a_KINDS) (by rfl) T.g_KINDS rfl) (e_sl (e_var (pv 0)) o_none (o_some e_int)) (fun _ _ => rfl))) (a_cons (e_call G_read_number hr (by rfl) T.g_read_number T.F_read_number.kp T.b_read_number (a_cons (e_sl (e_var (pv 0)) (o_some e_int) o_none) a_nil)) a_nil)))))))
  exact h
end
def b_mixed : FS :=
    (sSeq (sAsg 3 (fOp2 (seeB modD) (fOp2 addL (fOp2 addL (fOp2 (seeB mulD) (fCall 2 F_cell_at (faCons (fVar 0) (faCons (fVar 1) faNil))) (fC (.int 1103515245))) (fOp2 (seeB mulD) (fC (.int 7919)) (fVar 1))) (fC (.int 12345))) (fC (.int 2147483647))))
    (sFrz [3] (sRet (fOp2 (seeB modD) (fOp2 (seeB modD) (fOp2 (seeB modD) (fOp2 (seeB powD) (fVar 3) (fC (.int 5))) (fC (.int 2147483647))) (fC (.int 999983))) (fVar 2)))))
def F_mixed : FF := runF 4 3 b_mixed
section
variable {P : Program} {w : World} {K : PySem.W.Frag} {mg : Str → Option Value} {base : Heap}
theorem ok_mixed (T : Tx K mg w) : FnOk P w K mg base CX0 2 T.f__law_mixed T.d__law_mixed ["_law_script", "_law_k", "_law_many"] (spF ⟨K, P, w⟩ 3 F_mixed) := by
  have G_cell_at := ok_cell_at (P := P) (base := base) T
  have h : FnOk P w K mg base CX0 2 T.f__law_mixed T.d__law_mixed ["_law_script", "_law_k", "_law_many"] (spF ⟨K, P, w⟩ [("_law_script" : Str), ("_law_k" : Str), ("_law_many" : Str)].length (runF [("_law_script" : Str), ("_law_k" : Str), ("_law_many" : Str), ("_law_spun" : Str)].length [("_law_script" : Str), ("_law_k" : Str), ("_law_many" : Str)].length b_mixed)) := fn_pi (body := b_mixed) T.F__law_mixed sc_mixed fun cdv A outer s H E hr =>
    (b_cons (s_set (ps_set (i := 3) sc_mixed.nd rfl (Or.inl rfl) (e_op op_modN (RDs.do rd_modD) (e_op op_addA rd_add2 (e_op op_addA rd_add2 (e_op op_mulA (RDs.do rd_mulD) (e_call G_cell_at hr (by rfl) T.g__law_cell_at T.F__law_cell_at.kp T.b__law_cell_at (a_cons (e_var (pv 0)) (a_cons (e_var (pv 1)) a_nil))) e_int) (e_op op_mulA (RDs.do rd_mulD) e_int (e_var (pv 1)))) e_int) e_int)))
    (b_one (s_frz (is := [3]) (s_retE (ps_ret (e_op op_modN (RDs.do rd_modD) (e_op op_modN (RDs.do rd_modD) (e_op op_modN (RDs.do rd_modD) (e_op op_pow (RDs.do rd_powD) (e_var (pv 3)) e_int) e_int) e_int) (e_var (pv 2))))))))
  exact h
end
def b_are_things : FS :=
    (sSeq (sIf (tNotF (bT (fCall 3 F_is_tuple (faCons (fVar 0) (faCons (fC (.int 1)) (faCons (fC (.int 5)) faNil))))))
    (sRet (fC (.bool false)))
    sNx)
    (sSeq (sAsg 1 (fC (.int 1)))
    (sSeq (sFor (itTake (fVar 0)) (tgN 2) [2]
    (sSeq (sIf (tNotF (bT (fCall 1 F_is_thing (faCons (fVar 2) faNil))))
    (sRet (fC (.bool false)))
    sNx)
    (sAsg 1 (fOp2 (seeB mulD) (fVar 1) (lenS (faCons (fVar 2) faNil))))))
    (sFrz [1] (sRet (fOp2 (seeB (ordD .LtE)) (fVar 1) (fC (.int 256))))))))
def F_are_things : FF := runF 3 1 b_are_things
section
variable {P : Program} {w : World} {K : PySem.W.Frag} {mg : Str → Option Value} {base : Heap}
theorem ok_are_things (T : Tx K mg w) : FnOk P w K mg base CX0 3 T.f_are_things T.d_are_things ["value"] (spF ⟨K, P, w⟩ 1 F_are_things) := by
  have G_is_tuple := ok_is_tuple (P := P) (base := base) T
  have G_is_thing := ok_is_thing (P := P) (base := base) T
  have h : FnOk P w K mg base CX0 3 T.f_are_things T.d_are_things ["value"] (spF ⟨K, P, w⟩ [("value" : Str)].length (runF [("value" : Str), ("many" : Str), ("thing" : Str)].length [("value" : Str)].length b_are_things)) := fn_pi (body := b_are_things) T.F_are_things sc_are_things fun cdv A outer s H E hr =>
    (b_cons (s_ite (t_not (t_val (e_call G_is_tuple (hr.mono (by decide)) (by rfl) T.g_is_tuple T.F_is_tuple.kp T.b_is_tuple (a_cons (e_var (pv 0)) (a_cons e_int (a_cons (e_cst (pe_glob (v := .int 5) (by rfl) T.g_MOST_THINGS ⟨_, rfl⟩) (fun _ => .int _)) a_nil))))))
    (b_one (s_retE (ps_ret e_bl)))
    b_nil)
    (b_cons (s_set (ps_set (i := 1) sc_are_things.nd rfl (Or.inl rfl) e_int))
    (b_cons (s_for (wp := [2]) (gd_name (i := 2)) (ps_for PassesOwn.never rfl (i_for (e_var (pv 0))) (pg_name (i := 2) sc_are_things.nd rfl (Or.inl rfl))
    (b_cons (s_ite (t_not (t_val (e_call G_is_thing hr (by rfl) T.g_is_thing T.F_is_thing.kp T.b_is_thing (a_cons (e_var (pv 2)) a_nil))))
    (b_one (s_retE (ps_ret e_bl)))
    b_nil)
    (b_one (s_set (ps_set (i := 1) sc_are_things.nd rfl (Or.inl rfl) (e_op op_mulA (RDs.do rd_mulD) (e_var (pv 1)) (e_len (pe_callB call_lenA (by rfl) T.z_len PySem.boot_len (a_cons (e_var (pv 2)) a_nil))))))))))
    (b_one (s_frz (is := [1]) (s_retE (ps_ret (e_cmp (op_ord (.inr (.inr (.inl rfl))) hr.units) (RDs.do rd_ord) (e_var (pv 1)) (e_cst (pe_glob (v := .int 256) (by rfl) T.g_MOST_WORLDS ⟨_, rfl⟩) (fun _ => .int _)) (nomark _)))))))))
  exact h
end
def b_is_step : FS :=
    (sSeq (sIf (tNotF (bT (fCall 3 F_is_tuple (faCons (fVar 0) (faCons (fC (.int 2)) (faCons (fC (.int 2)) faNil))))))
    (sRet (fC (.bool false)))
    sNx)
    (sSeq (sAsgT (tgT [(tgN 3), (tgN 4)]) (fVar 0))
    (sSeq (sIf (tOrF (tNotF (bT (fIsi isStr (fVar 3)))) (bT (fInM true mREADINGS (fVar 3))))
    (sRet (fC (.bool false)))
    sNx)
    (sSeq (sIf (tNotF (bT (fCall 3 F_is_tuple (faCons (fVar 4) (faCons (fIxM mREADINGS (fVar 3)) (faCons (fIxM mREADINGS (fVar 3)) faNil))))))
    (sRet (fC (.bool false)))
    sNx)
    (sSeq (sFor (itTake (fVar 4)) (tgN 5) [5]
    (sIf (tNotF (bT (fCall 3 F_is_reading (faCons (fVar 5) (faCons (fVar 1) (faCons (fVar 2) faNil))))))
    (sRet (fC (.bool false)))
    sNx))
    (sRet (fC (.bool true))))))))
def F_is_step : FF := runF 6 3 b_is_step
section
variable {P : Program} {w : World} {K : PySem.W.Frag} {mg : Str → Option Value} {base : Heap}
theorem ok_is_step (T : Tx K mg w) : FnOk P w K mg base CX0 3 T.f_is_step T.d_is_step ["value", "many_things", "step"] (spF ⟨K, P, w⟩ 3 F_is_step) := by
  have G_is_tuple := ok_is_tuple (P := P) (base := base) T
  have G_is_reading := ok_is_reading (P := P) (base := base) T
  have h : FnOk P w K mg base CX0 3 T.f_is_step T.d_is_step ["value", "many_things", "step"] (spF ⟨K, P, w⟩ [("value" : Str), ("many_things" : Str), ("step" : Str)].length (runF [("value" : Str), ("many_things" : Str), ("step" : Str), ("operation" : Str), ("reads" : Str), ("reading" : Str)].length [("value" : Str), ("many_things" : Str), ("step" : Str)].length b_is_step)) := fn_pi (body := b_is_step) T.F_is_step sc_is_step fun cdv A outer s H E hr =>
    (b_cons (s_ite (t_not (t_val (e_call G_is_tuple (hr.mono (by decide)) (by rfl) T.g_is_tuple T.F_is_tuple.kp T.b_is_tuple (a_cons (e_var (pv 0)) (a_cons e_int (a_cons e_int a_nil))))))
    (b_one (s_retE (ps_ret e_bl)))
    b_nil)
    (b_cons (s_setT (gd_tup (gds_cons (gd_name (i := 3)) (gds_cons (gd_name (i := 4)) gds_nil)) rfl) (ps_asg (e_var (pv 0)) (pg_tup rfl (pgs_cons (pg_name (i := 3) sc_is_step.nd rfl (Or.inl rfl)) (pgs_cons (pg_name (i := 4) sc_is_step.nd rfl (Or.inl rfl)) pgs_nil)))))
    (b_cons (s_ite (PW.pt (w_or (t_not (t_val (e_isi (T := "str") (kit_str _) (by rfl) T.z_isinstance (pa_cons (e_var (pv 3)) (pa_cons (pe_bltn (v := .ty "str") (by rfl) T.z_str (by decide +kernel) rfl) pa_nil))))) (pw_or1 (t_notInM T.m_READINGS (pt_cmpR op_notInDm (e_var (pv 3)) (pe_glob (v := .ref T.a_READINGS) (by rfl) T.g_READINGS rfl) (by rfl))))))
    (b_one (s_retE (ps_ret e_bl)))
    b_nil)
    (b_cons (s_ite (t_not (t_val (e_call G_is_tuple (hr.mono (by decide)) (by rfl) T.g_is_tuple T.F_is_tuple.kp T.b_is_tuple (a_cons (e_var (pv 4)) (a_cons (e_ixM T.m_READINGS (pe_ix ix_dm (pe_glob (v := .ref T.a_READINGS) (by rfl) T.g_READINGS rfl) (e_var (pv 3)) (fun _ _ => rfl))) (a_cons (e_ixM T.m_READINGS (pe_ix ix_dm (pe_glob (v := .ref T.a_READINGS) (by rfl) T.g_READINGS rfl) (e_var (pv 3)) (fun _ _ => rfl))) a_nil))))))
    (b_one (s_retE (ps_ret e_bl)))
    b_nil)
    (b_cons (s_for (wp := [5]) (gd_name (i := 5)) (ps_for PassesOwn.never rfl (i_for (e_var (pv 4))) (pg_name (i := 5) sc_is_step.nd rfl (Or.inl rfl))
    (b_one (s_ite (t_not (t_val (e_call G_is_reading hr (by rfl) T.g_is_reading T.F_is_reading.kp T.b_is_reading (a_cons (e_var (pv 5)) (a_cons (e_var (pv 1)) (a_cons (e_var (pv 2)) a_nil))))))
    (b_one (s_retE (ps_ret e_bl)))
    b_nil))))
    (b_one (s_retE (ps_ret e_bl))))))))
  exact h
end
def b_read_step : FS :=
    (sSeq (sAsg 1 (fMt "str" splitG (fVar 0) (faCons (fC (.str " ")) faNil)))
    (sFrz [1] (sRet (fTup (faCons (fOp2 (seeB ixD) (fVar 1) (fC (.int 0))) (faCons (fBi (see1 tupG) (faCons (fLc (itSee (fSl (fVar 1) (oSome (fC (.int 1))) oNone)) (tgN 2) [2] tT (fCall 1 F_read_reading (faCons (fVar 2) faNil))) faNil)) faNil))))))
def F_read_step : FF := runF 3 1 b_read_step
section
variable {P : Program} {w : World} {K : PySem.W.Frag} {mg : Str → Option Value} {base : Heap}
theorem ok_read_step (T : Tx K mg w) : FnOk P w K mg base CX0 3 T.f_read_step T.d_read_step ["text"] (spF ⟨K, P, w⟩ 1 F_read_step) := by
  have G_read_reading := ok_read_reading (P := P) (base := base) T
  have h : FnOk P w K mg base CX0 3 T.f_read_step T.d_read_step ["text"] (spF ⟨K, P, w⟩ [("text" : Str)].length (runF [("text" : Str), ("words" : Str), ("word" : Str)].length [("text" : Str)].length b_read_step)) := fn_pi (body := b_read_step) T.F_read_step sc_read_step fun cdv A outer s H E hr =>
    (b_cons (s_set (ps_set (i := 1) sc_read_step.nd rfl (Or.inl rfl) (e_mt md_split (pe_bm PySem.F.plainAttrs_str PySem.F.slot_str_split PySem.F.type_str_split mt_split (e_var (pv 0)) (a_cons (e_cst (pe_glob (v := .str " ") (by rfl) T.g_WORDS ⟨_, rfl⟩) (fun _ => .str _)) a_nil)))))
    (b_one (s_frz (is := [1]) (s_retE (ps_ret (e_tup (a_cons (e_ix ix_seq (RDs.do rd_ixD) (e_var (pv 1)) e_int (fun _ _ => rfl)) (a_cons (e_ty call_tuple_of cd_tup (by rfl) T.z_tuple (by decide +kernel) (a_cons (e_lc (gd_name (i := 2)) (by decide) (pe_lc (own := [("word", 2)]) rfl sc_read_step.nd (i_lc (e_sl (e_var (pv 1)) (o_some e_int) o_none)) (blkOk_by (own := [("word", 2)]) (N := ["text", "words", "word"]) (sc := defScope s_read_step) (by decide +kernel)) (fun _ _ _ _ _ => (pg_name (i := 2) sc_read_step.nd rfl (Or.inl rfl))) (fun _ _ _ _ _ => pts_yes) (fun _ _ _ _ _ => (e_call G_read_reading hr (by rfl) T.g_read_reading T.F_read_reading.kp T.b_read_reading (a_cons (e_var (pv 2)) a_nil))))) a_nil)) a_nil))))))))
  exact h
end
def b_draw : FS :=
    (sSeq (sDraw 1)
    (sRet (fCall 3 F_mixed (faCons (fVar 0) (faCons (lenS (faCons (fVar 1) faNil)) (faCons (fVar 2) faNil))))))
def F_draw : FF := runF 3 3 b_draw
section
variable {P : Program} {w : World} {K : PySem.W.Frag} {mg : Str → Option Value} {base : Heap}
theorem ok_draw (T : Tx K mg w) : FnOk P w K mg base CX0 3 T.f__law_draw T.d__law_draw ["_law_script", "_law_state", "_law_many"] (spF ⟨K, P, w⟩ 3 F_draw) := by
  have G_mixed := ok_mixed (P := P) (base := base) T
  have h : FnOk P w K mg base CX0 3 T.f__law_draw T.d__law_draw ["_law_script", "_law_state", "_law_many"] (spF ⟨K, P, w⟩ [("_law_script" : Str), ("_law_state" : Str), ("_law_many" : Str)].length (runF [("_law_script" : Str), ("_law_state" : Str), ("_law_many" : Str)].length [("_law_script" : Str), ("_law_state" : Str), ("_law_many" : Str)].length b_draw)) := fn_pi (body := b_draw) T.F__law_draw sc_draw fun cdv A outer s H E hr =>
    (b_cons (st_draw (ps_expr (pe_bm PySem.F.plainAttrs_list PySem.F.slot_list_append PySem.F.type_list_append mt_append (pv 1) (pa_cons pe_int pa_nil))))
    (b_one (s_retE (ps_ret (e_call G_mixed hr (by rfl) T.g__law_mixed T.F__law_mixed.kp T.b__law_mixed (a_cons (e_var (pv 0)) (a_cons (e_len (pe_callB call_lenA (by rfl) T.z_len PySem.boot_len (a_cons (e_var (pv 1)) a_nil))) (a_cons (e_var (pv 2)) a_nil))))))))
  exact h
end
def b_are_steps : FS :=
    (sSeq (sIf (tNotF (bT (fCall 3 F_is_tuple (faCons (fVar 0) (faCons (fC (.int 1)) (faCons (fC (.int 8)) faNil))))))
    (sRet (fC (.bool false)))
    sNx)
    (sSeq (sFor (itRng1 (faCons (lenS (faCons (fVar 0) faNil)) faNil)) (tgN 2) [2]
    (sIf (tNotF (bT (fCall 3 F_is_step (faCons (fOp2 (seeB ixD) (fVar 0) (fVar 2)) (faCons (fVar 1) (faCons (fVar 2) faNil))))))
    (sRet (fC (.bool false)))
    sNx))
    (sRet (fC (.bool true)))))
def F_are_steps : FF := runF 3 2 b_are_steps
section
variable {P : Program} {w : World} {K : PySem.W.Frag} {mg : Str → Option Value} {base : Heap}
theorem ok_are_steps (T : Tx K mg w) : FnOk P w K mg base CX0 4 T.f_are_steps T.d_are_steps ["value", "many_things"] (spF ⟨K, P, w⟩ 2 F_are_steps) := by
  have G_is_tuple := ok_is_tuple (P := P) (base := base) T
  have G_is_step := ok_is_step (P := P) (base := base) T
  have h : FnOk P w K mg base CX0 4 T.f_are_steps T.d_are_steps ["value", "many_things"] (spF ⟨K, P, w⟩ [("value" : Str), ("many_things" : Str)].length (runF [("value" : Str), ("many_things" : Str), ("at" : Str)].length [("value" : Str), ("many_things" : Str)].length b_are_steps)) := fn_pi (body := b_are_steps) T.F_are_steps sc_are_steps fun cdv A outer s H E hr =>
    (b_cons (s_ite (t_not (t_val (e_call G_is_tuple (hr.mono (by decide)) (by rfl) T.g_is_tuple T.F_is_tuple.kp T.b_is_tuple (a_cons (e_var (pv 0)) (a_cons e_int (a_cons (e_cst (pe_glob (v := .int 8) (by rfl) T.g_MOST_STEPS ⟨_, rfl⟩) (fun _ => .int _)) a_nil))))))
    (b_one (s_retE (ps_ret e_bl)))
    b_nil)
    (b_cons (s_for (wp := [2]) (gd_name (i := 2)) (ps_for PassesOwn.never rfl (i_rng1 (pi_range1 (by rfl) T.z_range (a_cons (e_len (pe_callB call_lenA (by rfl) T.z_len PySem.boot_len (a_cons (e_var (pv 0)) a_nil))) a_nil))) (pg_name (i := 2) sc_are_steps.nd rfl (Or.inl rfl))
    (b_one (s_ite (t_not (t_val (e_call G_is_step hr (by rfl) T.g_is_step T.F_is_step.kp T.b_is_step (a_cons (e_ix ix_seq (RDs.do rd_ixD) (e_var (pv 0)) (e_var (pv 2)) (fun _ _ => rfl)) (a_cons (e_var (pv 1)) (a_cons (e_var (pv 2)) a_nil))))))
    (b_one (s_retE (ps_ret e_bl)))
    b_nil))))
    (b_one (s_retE (ps_ret e_bl)))))
  exact h
end
def b_some_of : FS :=
    (sSeq (sPar 4 5 (fBi (see1 lstG) (faCons (fVar 2) faNil)) (fLst faNil))
    (sSeq (sWhile (tAndF (bT (fOp2 (seeB (eqD true)) (fVar 4) (fLst faNil))) (bT (fOp2 (seeB (ordD .Lt)) (lenS (faCons (fVar 5) faNil)) (fVar 3)))) []
    (sAppPop 5 4 (fCall 3 F_draw (faCons (fVar 0) (faCons (fVar 1) (faCons (lenS (faCons (fVar 4) faNil)) faNil))))) fuel)
    (sFrz [5] (sRet (fBi (see1 tupG) (faCons (fBi (see1 sortG) (faCons (fVar 5) faNil)) faNil))))))
def F_some_of : FF := runF 6 4 b_some_of
section
variable {P : Program} {w : World} {K : PySem.W.Frag} {mg : Str → Option Value} {base : Heap}
theorem ok_some_of (T : Tx K mg w) : FnOk P w K mg base CX0 4 T.f__law_some_of T.d__law_some_of ["_law_script", "_law_state", "_law_some", "_law_count"] (spF ⟨K, P, w⟩ 4 F_some_of) := by
  have G_draw := ok_draw (P := P) (base := base) T
  have h : FnOk P w K mg base CX0 4 T.f__law_some_of T.d__law_some_of ["_law_script", "_law_state", "_law_some", "_law_count"] (spF ⟨K, P, w⟩ [("_law_script" : Str), ("_law_state" : Str), ("_law_some" : Str), ("_law_count" : Str)].length (runF [("_law_script" : Str), ("_law_state" : Str), ("_law_some" : Str), ("_law_count" : Str), ("_law_left" : Str), ("_law_found" : Str)].length [("_law_script" : Str), ("_law_state" : Str), ("_law_some" : Str), ("_law_count" : Str)].length b_some_of)) := fn_pi (body := b_some_of) T.F__law_some_of sc_some_of fun cdv A outer s H E hr =>
    (b_cons (s_par2 (ps_par (i := 4) (j := 5) (by rfl) sc_some_of.nd rfl rfl (by decide) rfl rfl (pa_cons (e_ty call_list_of cd_lst (by rfl) T.z_list (by decide +kernel) (a_cons (e_var (pv 2)) a_nil)) (pa_cons (e_lst a_nil) pa_nil)) (by rfl)))
    (b_cons (s_while (wp := []) (ps_while PassesOwn.never (PW.pt (w_and (t_cmp (op_neA hr.units) (RDs.do rd_neD') (e_var (pv 4)) (e_lst a_nil) (nomark _)) (pw_and1 (t_cmp (op_ord (.inl rfl) hr.units) (RDs.do rd_ord) (e_len (pe_callB call_lenA (by rfl) T.z_len PySem.boot_len (a_cons (e_var (pv 5)) a_nil))) (e_var (pv 3)) (nomark _)))))
    (b_one (s_appPop (ps_expr (pe_bm PySem.F.plainAttrs_list PySem.F.slot_list_append PySem.F.type_list_append mt_append (pv 5) (pa_cons (pe_bm PySem.F.plainAttrs_list PySem.F.slot_list_pop PySem.F.type_list_pop mt_popAt (pv 4) (pa_cons (e_call G_draw hr (by rfl) T.g__law_draw T.F__law_draw.kp T.b__law_draw (a_cons (e_var (pv 0)) (a_cons (e_var (pv 1)) (a_cons (e_len (pe_callB call_lenA (by rfl) T.z_len PySem.boot_len (a_cons (e_var (pv 4)) a_nil))) a_nil)))) pa_nil)) pa_nil)))))))
    (b_one (s_frz (is := [5]) (s_retE (ps_ret (e_ty call_tuple_of cd_tup (by rfl) T.z_tuple (by decide +kernel) (a_cons (e_bi (cr_sortAll rfl hr.units) cd_sortAll (by rfl) T.z_sorted (by decide +kernel) (a_cons (e_var (pv 5)) a_nil)) a_nil))))))))
  exact h
end
def b_pick : FS :=
    (sRet (fOp2 (seeB ixD) (fVar 2) (fCall 3 F_draw (faCons (fVar 0) (faCons (fVar 1) (faCons (lenS (faCons (fVar 2) faNil)) faNil))))))
def F_pick : FF := runF 3 3 b_pick
section
variable {P : Program} {w : World} {K : PySem.W.Frag} {mg : Str → Option Value} {base : Heap}
theorem ok_pick (T : Tx K mg w) : FnOk P w K mg base CX0 4 T.f__law_pick T.d__law_pick ["_law_script", "_law_state", "_law_some"] (spF ⟨K, P, w⟩ 3 F_pick) := by
  have G_draw := ok_draw (P := P) (base := base) T
  have h : FnOk P w K mg base CX0 4 T.f__law_pick T.d__law_pick ["_law_script", "_law_state", "_law_some"] (spF ⟨K, P, w⟩ [("_law_script" : Str), ("_law_state" : Str), ("_law_some" : Str)].length (runF [("_law_script" : Str), ("_law_state" : Str), ("_law_some" : Str)].length [("_law_script" : Str), ("_law_state" : Str), ("_law_some" : Str)].length b_pick)) := fn_pi (body := b_pick) T.F__law_pick sc_pick fun cdv A outer s H E hr =>
    (b_one (s_retE (ps_ret (e_ix ix_seq (RDs.do rd_ixD) (e_var (pv 2)) (e_call G_draw hr (by rfl) T.g__law_draw T.F__law_draw.kp T.b__law_draw (a_cons (e_var (pv 0)) (a_cons (e_var (pv 1)) (a_cons (e_len (pe_callB call_lenA (by rfl) T.z_len PySem.boot_len (a_cons (e_var (pv 2)) a_nil))) a_nil)))) (fun _ _ => rfl)))))
  exact h
end
def b_is_recipe : FS :=
    (sSeq (sIf (tNotF (bT (fCall 3 F_is_tuple (faCons (fVar 0) (faCons (fC (.int 3)) (faCons (fC (.int 3)) faNil))))))
    (sRet (fC (.bool false)))
    sNx)
    (sSeq (sAsgT (tgT [(tgN 1), (tgN 2), (tgN 3)]) (fVar 0))
    (sRet (fAnd (fCall 1 F_are_things (faCons (fVar 1) faNil)) (fAnd (fCall 2 F_are_steps (faCons (fVar 2) (faCons (lenS (faCons (fVar 1) faNil)) faNil))) (fCall 2 F_is_made (faCons (fVar 3) (faCons (lenS (faCons (fVar 2) faNil)) faNil))))))))
def F_is_recipe : FF := runF 4 1 b_is_recipe
section
variable {P : Program} {w : World} {K : PySem.W.Frag} {mg : Str → Option Value} {base : Heap}
theorem ok_is_recipe (T : Tx K mg w) : FnOk P w K mg base CX0 5 T.f_is_recipe T.d_is_recipe ["value"] (spF ⟨K, P, w⟩ 1 F_is_recipe) := by
  have G_is_tuple := ok_is_tuple (P := P) (base := base) T
  have G_is_made := ok_is_made (P := P) (base := base) T
  have G_are_steps := ok_are_steps (P := P) (base := base) T
  have G_are_things := ok_are_things (P := P) (base := base) T
  have h : FnOk P w K mg base CX0 5 T.f_is_recipe T.d_is_recipe ["value"] (spF ⟨K, P, w⟩ [("value" : Str)].length (runF [("value" : Str), ("things" : Str), ("steps" : Str), ("made" : Str)].length [("value" : Str)].length b_is_recipe)) := fn_pi (body := b_is_recipe) T.F_is_recipe sc_is_recipe fun cdv A outer s H E hr =>
    (b_cons (s_ite (t_not (t_val (e_call G_is_tuple (hr.mono (by decide)) (by rfl) T.g_is_tuple T.F_is_tuple.kp T.b_is_tuple (a_cons (e_var (pv 0)) (a_cons e_int (a_cons e_int a_nil))))))
    (b_one (s_retE (ps_ret e_bl)))
    b_nil)
    (b_cons (s_setT (gd_tup (gds_cons (gd_name (i := 1)) (gds_cons (gd_name (i := 2)) (gds_cons (gd_name (i := 3)) gds_nil))) rfl) (ps_asg (e_var (pv 0)) (pg_tup rfl (pgs_cons (pg_name (i := 1) sc_is_recipe.nd rfl (Or.inl rfl)) (pgs_cons (pg_name (i := 2) sc_is_recipe.nd rfl (Or.inl rfl)) (pgs_cons (pg_name (i := 3) sc_is_recipe.nd rfl (Or.inl rfl)) pgs_nil))))))
    (b_one (s_retE (ps_ret (e_and (e_call G_are_things (hr.mono (by decide)) (by rfl) T.g_are_things T.F_are_things.kp T.b_are_things (a_cons (e_var (pv 1)) a_nil)) (e_and (e_call G_are_steps hr (by rfl) T.g_are_steps T.F_are_steps.kp T.b_are_steps (a_cons (e_var (pv 2)) (a_cons (e_len (pe_callB call_lenA (by rfl) T.z_len PySem.boot_len (a_cons (e_var (pv 1)) a_nil))) a_nil))) (pe_one (e_call G_is_made (hr.mono (by decide)) (by rfl) T.g_is_made T.F_is_made.kp T.b_is_made (a_cons (e_var (pv 3)) (a_cons (e_len (pe_callB call_lenA (by rfl) T.z_len PySem.boot_len (a_cons (e_var (pv 2)) a_nil))) a_nil)))))))))))
  exact h
end
def b_some_thing : FS :=
    (sSeq (sAsg 2 (fCall 3 F_pick (faCons (fVar 0) (faCons (fVar 1) (faCons (fTup (faCons (fTup (faCons (fC (.str "a")) (faCons (fC (.str "b")) faNil))) (faCons (fTup (faCons (fC (.str "")) (faCons (fC (.str "x")) faNil))) (faCons (fTup (faCons (fC (.str "ab")) (faCons (fC (.str "ba")) faNil))) (faCons (fTup (faCons (fC (.str "")) (faCons (fC (.str "a")) (faCons (fC (.str "aab")) faNil)))) (faCons (fTup (faCons (fC (.str "c")) faNil)) (faCons (fTup (faCons (fC (.str "b")) (faCons (fC (.str "ca")) (faCons (fC (.str "cb")) faNil)))) faNil))))))) faNil)))))
    (sFrz [2] (sRet (fIf (bT (fOp2 (seeB (ordD .Gt)) (fCall 3 F_draw (faCons (fVar 0) (faCons (fVar 1) (faCons (fC (.int 4)) faNil)))) (fC (.int 0)))) (fVar 2) (fSl (fVar 2) oNone (oSome (fC (.int 2))))))))
def F_some_thing : FF := runF 3 2 b_some_thing
section
variable {P : Program} {w : World} {K : PySem.W.Frag} {mg : Str → Option Value} {base : Heap}
theorem ok_some_thing (T : Tx K mg w) : FnOk P w K mg base CX0 5 T.f__law_some_thing T.d__law_some_thing ["_law_script", "_law_state"] (spF ⟨K, P, w⟩ 2 F_some_thing) := by
  have G_pick := ok_pick (P := P) (base := base) T
  have G_draw := ok_draw (P := P) (base := base) T
  have h : FnOk P w K mg base CX0 5 T.f__law_some_thing T.d__law_some_thing ["_law_script", "_law_state"] (spF ⟨K, P, w⟩ [("_law_script" : Str), ("_law_state" : Str)].length (runF [("_law_script" : Str), ("_law_state" : Str), ("_law_some" : Str)].length [("_law_script" : Str), ("_law_state" : Str)].length b_some_thing)) := fn_pi (body := b_some_thing) T.F__law_some_thing sc_some_thing fun cdv A outer s H E hr =>
    (b_cons (s_set (ps_set (i := 2) sc_some_thing.nd rfl (Or.inl rfl) (e_call G_pick hr (by rfl) T.g__law_pick T.F__law_pick.kp T.b__law_pick (a_cons (e_var (pv 0)) (a_cons (e_var (pv 1)) (a_cons (e_tup (a_cons (e_tup (a_cons e_str (a_cons e_str a_nil))) (a_cons (e_tup (a_cons e_str (a_cons e_str a_nil))) (a_cons (e_tup (a_cons e_str (a_cons e_str a_nil))) (a_cons (e_tup (a_cons e_str (a_cons e_str (a_cons e_str a_nil)))) (a_cons (e_tup (a_cons e_str a_nil)) (a_cons (e_tup (a_cons e_str (a_cons e_str (a_cons e_str a_nil)))) a_nil))))))) a_nil))))))
    (b_one (s_frz (is := [2]) (s_retE (ps_ret (e_if (t_cmp (op_ord (.inr (.inl rfl)) hr.units) (RDs.do rd_ord) (e_call G_draw (hr.mono (by decide)) (by rfl) T.g__law_draw T.F__law_draw.kp T.b__law_draw (a_cons (e_var (pv 0)) (a_cons (e_var (pv 1)) (a_cons e_int a_nil)))) e_int (nomark _)) (e_var (pv 2)) (e_sl (e_var (pv 2)) o_none (o_some e_int))))))))
  exact h
end
def b_some_step : FS :=
    (sSeq (sAsg 4 (fTup (faCons (fC (.str "join")) (faCons (fC (.str "join")) (faCons (fC (.str "less")) (faCons (fC (.str "same")) (faCons (fC (.str "pick")) (faCons (fC (.str "sort")) (faCons (fC (.str "turn")) (faCons (fC (.str "first")) (faCons (fC (.str "rest")) faNil)))))))))))
    (sSeq (sPar 5 6 (fCall 3 F_pick (faCons (fVar 0) (faCons (fVar 1) (faCons (fVar 4) faNil)))) (fLst faNil))
    (sSeq (sFor (itRng1 (faCons (fGetLit [("join", 2), ("less", 2), ("same", 2), ("pick", 3)] (fVar 5) (fC (.int 1))) faNil)) (tgN 7) [7]
    (sIf (tOrF (bT (fOp2 (seeB (eqD false)) (fVar 3) (fC (.int 0)))) (bT (fOp2 (seeB (ordD .Lt)) (fCall 3 F_draw (faCons (fVar 0) (faCons (fVar 1) (faCons (fC (.int 5)) faNil)))) (fC (.int 3)))))
    (sApp 6 (fTup (faCons (fC (.str "thing")) (faCons (fCall 3 F_draw (faCons (fVar 0) (faCons (fVar 1) (faCons (fVar 2) faNil)))) faNil))))
    (sApp 6 (fTup (faCons (fC (.str "step")) (faCons (fCall 3 F_draw (faCons (fVar 0) (faCons (fVar 1) (faCons (fVar 3) faNil)))) faNil))))))
    (sFrz [5, 6] (sRet (fTup (faCons (fVar 5) (faCons (fBi (see1 tupG) (faCons (fVar 6) faNil)) faNil))))))))
def F_some_step : FF := runF 8 4 b_some_step
section
variable {P : Program} {w : World} {K : PySem.W.Frag} {mg : Str → Option Value} {base : Heap}
theorem ok_some_step (T : Tx K mg w) : FnOk P w K mg base CX0 5 T.f__law_some_step T.d__law_some_step ["_law_script", "_law_state", "_law_things", "_law_count"] (spF ⟨K, P, w⟩ 4 F_some_step) := by
  have G_pick := ok_pick (P := P) (base := base) T
  have G_draw := ok_draw (P := P) (base := base) T
  have h : FnOk P w K mg base CX0 5 T.f__law_some_step T.d__law_some_step ["_law_script", "_law_state", "_law_things", "_law_count"] (spF ⟨K, P, w⟩ [("_law_script" : Str), ("_law_state" : Str), ("_law_things" : Str), ("_law_count" : Str)].length (runF [("_law_script" : Str), ("_law_state" : Str), ("_law_things" : Str), ("_law_count" : Str), ("_law_names" : Str), ("_law_name" : Str), ("_law_reads" : Str), ("_law_again" : Str)].length [("_law_script" : Str), ("_law_state" : Str), ("_law_things" : Str), ("_law_count" : Str)].length b_some_step)) := fn_pi (body := b_some_step) T.F__law_some_step sc_some_step fun cdv A outer s H E hr =>
    (b_cons (s_set (ps_set (i := 4) sc_some_step.nd rfl (Or.inl rfl) (e_tup (a_cons e_str (a_cons e_str (a_cons e_str (a_cons e_str (a_cons e_str (a_cons e_str (a_cons e_str (a_cons e_str (a_cons e_str a_nil))))))))))))
    (b_cons (s_par2 (ps_par (i := 5) (j := 6) (by rfl) sc_some_step.nd rfl rfl (by decide) rfl rfl (pa_cons (e_call G_pick hr (by rfl) T.g__law_pick T.F__law_pick.kp T.b__law_pick (a_cons (e_var (pv 0)) (a_cons (e_var (pv 1)) (a_cons (e_var (pv 4)) a_nil)))) (pa_cons (e_lst a_nil) pa_nil)) (by rfl)))
    (b_cons (s_for (wp := [7]) (gd_name (i := 7)) (ps_for PassesOwn.never rfl (i_rng1 (pi_range1 (by rfl) T.z_range (a_cons (e_getLit (m := [("join", 2), ("less", 2), ("same", 2), ("pick", 3)]) (pe_dget2 (hu_of hr) (pe_disp (pps_cons pe_str pe_int (pps_cons pe_str pe_int (pps_cons pe_str pe_int (pps_cons pe_str pe_int pps_nil)))) (by rfl) (by rfl) (fun z => by cases z) (by decide)) (e_var (pv 5)) e_int ⟨rfl, rfl, rfl, rfl⟩)) a_nil))) (pg_name (i := 7) sc_some_step.nd rfl (Or.inl rfl))
    (b_one (s_ite (PW.pt (w_or (t_cmp (op_eqA hr.units) (RDs.do rd_eqD') (e_var (pv 3)) e_int (nomark _)) (pw_or1 (t_cmp (op_ord (.inl rfl) hr.units) (RDs.do rd_ord) (e_call G_draw (hr.mono (by decide)) (by rfl) T.g__law_draw T.F__law_draw.kp T.b__law_draw (a_cons (e_var (pv 0)) (a_cons (e_var (pv 1)) (a_cons e_int a_nil)))) e_int (nomark _)))))
    (b_one (s_app (ps_expr (pe_bm PySem.F.plainAttrs_list PySem.F.slot_list_append PySem.F.type_list_append mt_append (pv 6) (pa_cons (e_tup (a_cons e_str (a_cons (e_call G_draw (hr.mono (by decide)) (by rfl) T.g__law_draw T.F__law_draw.kp T.b__law_draw (a_cons (e_var (pv 0)) (a_cons (e_var (pv 1)) (a_cons (e_var (pv 2)) a_nil)))) a_nil))) pa_nil)))))
    (b_one (s_app (ps_expr (pe_bm PySem.F.plainAttrs_list PySem.F.slot_list_append PySem.F.type_list_append mt_append (pv 6) (pa_cons (e_tup (a_cons e_str (a_cons (e_call G_draw (hr.mono (by decide)) (by rfl) T.g__law_draw T.F__law_draw.kp T.b__law_draw (a_cons (e_var (pv 0)) (a_cons (e_var (pv 1)) (a_cons (e_var (pv 3)) a_nil)))) a_nil))) pa_nil)))))))))
    (b_one (s_frz (is := [5, 6]) (s_retE (ps_ret (e_tup (a_cons (e_var (pv 5)) (a_cons (e_ty call_tuple_of cd_tup (by rfl) T.z_tuple (by decide +kernel) (a_cons (e_var (pv 6)) a_nil)) a_nil))))))))))
  exact h
end
def b_check_recipe : FS :=
    (sIf (tNotF (bT (fCall 1 F_is_recipe (faCons (fVar 0) faNil))))
    sNever
    sNx)
def F_check_recipe : FF := runF 1 1 b_check_recipe
section
variable {P : Program} {w : World} {K : PySem.W.Frag} {mg : Str → Option Value} {base : Heap}
theorem ok_check_recipe (T : Tx K mg w) : FnOk P w K mg base CX0 6 T.f_check_recipe T.d_check_recipe ["value"] (spF ⟨K, P, w⟩ 1 F_check_recipe) := by
  have G_is_recipe := ok_is_recipe (P := P) (base := base) T
  have h : FnOk P w K mg base CX0 6 T.f_check_recipe T.d_check_recipe ["value"] (spF ⟨K, P, w⟩ [("value" : Str)].length (runF [("value" : Str)].length [("value" : Str)].length b_check_recipe)) := fn_pi (body := b_check_recipe) T.F_check_recipe sc_check_recipe fun cdv A outer s H E hr =>
    (b_one (s_ite (t_not (t_val (e_call G_is_recipe hr (by rfl) T.g_is_recipe T.F_is_recipe.kp T.b_is_recipe (a_cons (e_var (pv 0)) a_nil))))
    (b_one s_never)
    b_nil))
  exact h
end
def b_parse_recipe : FS :=
    (sSeq (sIf (tNotF (bT (fIsi isStr (fVar 0))))
    sNever
    sNx)
    (sSeq (sAsg 1 (fMt "str" splitG (fVar 0) (faCons (fC (.str "; ")) faNil)))
    (sSeq (sIf (bT (fOp2 (seeB (eqD true)) (lenS (faCons (fVar 1) faNil)) (fC (.int 3))))
    sNever
    sNx)
    (sSeq (sAsg 2 (fLc (itSee (fMt "str" splitG (fOp2 (seeB ixD) (fVar 1) (fC (.int 0))) (faCons (fC (.str ", ")) faNil))) (tgN 6) [6] tT (fCall 1 F_read_thing (faCons (fVar 6) faNil))))
    (sSeq (sAsg 3 (fLc (itSee (fMt "str" splitG (fOp2 (seeB ixD) (fVar 1) (fC (.int 1))) (faCons (fC (.str ", ")) faNil))) (tgN 6) [6] tT (fCall 1 F_read_step (faCons (fVar 6) faNil))))
    (sSeq (sAsg 4 (fLc (itSee (fMt "str" splitG (fOp2 (seeB ixD) (fVar 1) (fC (.int 2))) (faCons (fC (.str ", ")) faNil))) (tgN 6) [6] tT (fCall 1 F_read_number (faCons (fVar 6) faNil))))
    (sSeq (sAsg 5 (fTup (faCons (fBi (see1 tupG) (faCons (fVar 2) faNil)) (faCons (fBi (see1 tupG) (faCons (fVar 3) faNil)) (faCons (fBi (see1 tupG) (faCons (fVar 4) faNil)) faNil)))))
    (sSeq (sIf (tOrF (tNotF (bT (fCall 1 F_is_recipe (faCons (fVar 5) faNil)))) (bT (fOp2 (seeB (eqD true)) (fCall 1 F_written (faCons (fVar 5) faNil)) (fVar 0))))
    sNever
    sNx)
    (sRetV 5)))))))))
def F_parse_recipe : FF := runF 7 1 b_parse_recipe
section
variable {P : Program} {w : World} {K : PySem.W.Frag} {mg : Str → Option Value} {base : Heap}
theorem ok_parse_recipe (T : Tx K mg w) : FnOk P w K mg base CX0 6 T.f_parse_recipe T.d_parse_recipe ["text"] (spF ⟨K, P, w⟩ 1 F_parse_recipe) := by
  have G_read_thing := ok_read_thing (P := P) (base := base) T
  have G_read_step := ok_read_step (P := P) (base := base) T
  have G_read_number := ok_read_number (P := P) (base := base) T
  have G_written := ok_written (P := P) (base := base) T
  have G_is_recipe := ok_is_recipe (P := P) (base := base) T
  have h : FnOk P w K mg base CX0 6 T.f_parse_recipe T.d_parse_recipe ["text"] (spF ⟨K, P, w⟩ [("text" : Str)].length (runF [("text" : Str), ("parts" : Str), ("things" : Str), ("steps" : Str), ("made" : Str), ("recipe" : Str), ("part" : Str)].length [("text" : Str)].length b_parse_recipe)) := fn_pi (body := b_parse_recipe) T.F_parse_recipe sc_parse_recipe fun cdv A outer s H E hr =>
    (b_cons (s_ite (t_not (t_val (e_isi (T := "str") (kit_str _) (by rfl) T.z_isinstance (pa_cons (e_var (pv 0)) (pa_cons (pe_bltn (v := .ty "str") (by rfl) T.z_str (by decide +kernel) rfl) pa_nil)))))
    (b_one s_never)
    b_nil)
    (b_cons (s_set (ps_set (i := 1) sc_parse_recipe.nd rfl (Or.inl rfl) (e_mt md_split (pe_bm PySem.F.plainAttrs_str PySem.F.slot_str_split PySem.F.type_str_split mt_split (e_var (pv 0)) (a_cons (e_cst (pe_glob (v := .str "; ") (by rfl) T.g_PARTS ⟨_, rfl⟩) (fun _ => .str _)) a_nil)))))
    (b_cons (s_ite (t_cmp (op_neA hr.units) (RDs.do rd_neD') (e_len (pe_callB call_lenA (by rfl) T.z_len PySem.boot_len (a_cons (e_var (pv 1)) a_nil))) e_int (nomark _))
    (b_one s_never)
    b_nil)
    (b_cons (s_setLc (gd_name (i := 6)) (by decide) (ps_setLc (i := 2) (own := [("part", 6)]) rfl sc_parse_recipe.nd rfl rfl (sw_true rfl rfl rfl (by decide +kernel)) (i_lc (e_mt md_split (pe_bm PySem.F.plainAttrs_str PySem.F.slot_str_split PySem.F.type_str_split mt_split (e_ix ix_seq (RDs.do rd_ixD) (e_var (pv 1)) e_int (fun _ _ => rfl)) (a_cons (e_cst (pe_glob (v := .str ", ") (by rfl) T.g_ITEMS ⟨_, rfl⟩) (fun _ => .str _)) a_nil)))) (blkOk_by (own := [("part", 6)]) (N := ["text", "parts", "things", "steps", "made", "recipe", "part"]) (sc := defScope s_parse_recipe) (by decide +kernel)) (fun _ _ _ _ _ => (pg_name (i := 6) sc_parse_recipe.nd rfl (Or.inl rfl))) (fun _ _ _ _ _ => pts_yes) (fun _ _ _ _ _ => (e_call G_read_thing (hr.mono (by decide)) (by rfl) T.g_read_thing T.F_read_thing.kp T.b_read_thing (a_cons (e_var (pv 6)) a_nil)))))
    (b_cons (s_setLc (gd_name (i := 6)) (by decide) (ps_setLc (i := 3) (own := [("part", 6)]) rfl sc_parse_recipe.nd rfl rfl (sw_true rfl rfl rfl (by decide +kernel)) (i_lc (e_mt md_split (pe_bm PySem.F.plainAttrs_str PySem.F.slot_str_split PySem.F.type_str_split mt_split (e_ix ix_seq (RDs.do rd_ixD) (e_var (pv 1)) e_int (fun _ _ => rfl)) (a_cons (e_cst (pe_glob (v := .str ", ") (by rfl) T.g_ITEMS ⟨_, rfl⟩) (fun _ => .str _)) a_nil)))) (blkOk_by (own := [("part", 6)]) (N := ["text", "parts", "things", "steps", "made", "recipe", "part"]) (sc := defScope s_parse_recipe) (by decide +kernel)) (fun _ _ _ _ _ => (pg_name (i := 6) sc_parse_recipe.nd rfl (Or.inl rfl))) (fun _ _ _ _ _ => pts_yes) (fun _ _ _ _ _ => (e_call G_read_step (hr.mono (by decide)) (by rfl) T.g_read_step T.F_read_step.kp T.b_read_step (a_cons (e_var (pv 6)) a_nil)))))
    (b_cons (s_setLc (gd_name (i := 6)) (by decide) (ps_setLc (i := 4) (own := [("part", 6)]) rfl sc_parse_recipe.nd rfl rfl (sw_true rfl rfl rfl (by decide +kernel)) (i_lc (e_mt md_split (pe_bm PySem.F.plainAttrs_str PySem.F.slot_str_split PySem.F.type_str_split mt_split (e_ix ix_seq (RDs.do rd_ixD) (e_var (pv 1)) e_int (fun _ _ => rfl)) (a_cons (e_cst (pe_glob (v := .str ", ") (by rfl) T.g_ITEMS ⟨_, rfl⟩) (fun _ => .str _)) a_nil)))) (blkOk_by (own := [("part", 6)]) (N := ["text", "parts", "things", "steps", "made", "recipe", "part"]) (sc := defScope s_parse_recipe) (by decide +kernel)) (fun _ _ _ _ _ => (pg_name (i := 6) sc_parse_recipe.nd rfl (Or.inl rfl))) (fun _ _ _ _ _ => pts_yes) (fun _ _ _ _ _ => (e_call G_read_number (hr.mono (by decide)) (by rfl) T.g_read_number T.F_read_number.kp T.b_read_number (a_cons (e_var (pv 6)) a_nil)))))
    (b_cons (s_set (ps_set (i := 5) sc_parse_recipe.nd rfl (Or.inl rfl) (e_tup (a_cons (e_ty call_tuple_of cd_tup (by rfl) T.z_tuple (by decide +kernel) (a_cons (e_var (pv 2)) a_nil)) (a_cons (e_ty call_tuple_of cd_tup (by rfl) T.z_tuple (by decide +kernel) (a_cons (e_var (pv 3)) a_nil)) (a_cons (e_ty call_tuple_of cd_tup (by rfl) T.z_tuple (by decide +kernel) (a_cons (e_var (pv 4)) a_nil)) a_nil))))))
    (b_cons (s_ite (PW.pt (w_or (t_not (t_val (e_call G_is_recipe hr (by rfl) T.g_is_recipe T.F_is_recipe.kp T.b_is_recipe (a_cons (e_var (pv 5)) a_nil)))) (pw_or1 (t_cmp (op_neA hr.units) (RDs.do rd_neD') (e_call G_written (hr.mono (by decide)) (by rfl) T.g_written T.F_written.kp T.b_written (a_cons (e_var (pv 5)) a_nil)) (e_var (pv 0)) (nomark _)))))
    (b_one s_never)
    b_nil)
    (b_one (s_retV (ps_ret (pv 5))))))))))))
  exact h
end
def b_some_recipe : FS :=
    (sSeq (sAsg 3 (fBi (see1 tupG) (faCons (fLc (itRng1 (faCons (fOp2 addL (fC (.int 1)) (fCall 3 F_draw (faCons (fVar 0) (faCons (fVar 1) (faCons (fC (.int 3)) faNil))))) faNil)) (tgN 2) [2] tT (fCall 2 F_some_thing (faCons (fVar 0) (faCons (fVar 1) faNil)))) faNil)))
    (sSeq (sAsg 4 (fLst faNil))
    (sSeq (sFor (itRng1 (faCons (fOp2 addL (fC (.int 1)) (fCall 3 F_draw (faCons (fVar 0) (faCons (fVar 1) (faCons (fC (.int 5)) faNil))))) faNil)) (tgN 2) [2]
    (sApp 4 (fCall 4 F_some_step (faCons (fVar 0) (faCons (fVar 1) (faCons (lenS (faCons (fVar 3) faNil)) (faCons (lenS (faCons (fVar 4) faNil)) faNil)))))))
    (sSeq (sAsg 5 (fCall 4 F_some_of (faCons (fVar 0) (faCons (fVar 1) (faCons (fListRg (lenS (faCons (fVar 4) faNil))) (faCons (fCall 3 F_draw (faCons (fVar 0) (faCons (fVar 1) (faCons (fC (.int 2)) faNil)))) faNil))))))
    (sFrz [3, 4, 5] (sRet (fTup (faCons (fVar 3) (faCons (fBi (see1 tupG) (faCons (fVar 4) faNil)) (faCons (fBi (see1 tupG) (faCons (fSortI (faCons (fOp2 addL (fVar 5) (fTup (faCons (fOp2 (seeB subD) (lenS (faCons (fVar 4) faNil)) (fC (.int 1))) faNil))) faNil)) faNil)) faNil))))))))))
def F_some_recipe : FF := runF 6 2 b_some_recipe
section
variable {P : Program} {w : World} {K : PySem.W.Frag} {mg : Str → Option Value} {base : Heap}
theorem ok_some_recipe (T : Tx K mg w) : FnOk P w K mg base CX0 6 T.f__law_some_recipe T.d__law_some_recipe ["_law_script", "_law_state"] (spF ⟨K, P, w⟩ 2 F_some_recipe) := by
  have G_draw := ok_draw (P := P) (base := base) T
  have G_some_thing := ok_some_thing (P := P) (base := base) T
  have G_some_step := ok_some_step (P := P) (base := base) T
  have G_some_of := ok_some_of (P := P) (base := base) T
  have h : FnOk P w K mg base CX0 6 T.f__law_some_recipe T.d__law_some_recipe ["_law_script", "_law_state"] (spF ⟨K, P, w⟩ [("_law_script" : Str), ("_law_state" : Str)].length (runF [("_law_script" : Str), ("_law_state" : Str), ("_law_again" : Str), ("_law_things" : Str), ("_law_steps" : Str), ("_law_made" : Str)].length [("_law_script" : Str), ("_law_state" : Str)].length b_some_recipe)) := fn_pi (body := b_some_recipe) T.F__law_some_recipe sc_some_recipe fun cdv A outer s H E hr =>
    (b_cons (s_set (ps_set (i := 3) sc_some_recipe.nd rfl (Or.inl rfl) (e_ty call_tuple_of cd_tup (by rfl) T.z_tuple (by decide +kernel) (a_cons (e_lc (gd_name (i := 2)) (by decide) (pe_lc (own := [("_law_again", 2)]) rfl sc_some_recipe.nd (i_rng1 (pi_range1 (by rfl) T.z_range (a_cons (e_op op_addA rd_add2 e_int (e_call G_draw (hr.mono (by decide)) (by rfl) T.g__law_draw T.F__law_draw.kp T.b__law_draw (a_cons (e_var (pv 0)) (a_cons (e_var (pv 1)) (a_cons e_int a_nil))))) a_nil))) (blkOk_by (own := [("_law_again", 2)]) (N := ["_law_script", "_law_state", "_law_again", "_law_things", "_law_steps", "_law_made"]) (sc := defScope s_some_recipe) (by decide +kernel)) (fun _ _ _ _ _ => (pg_name (i := 2) sc_some_recipe.nd rfl (Or.inl rfl))) (fun _ _ _ _ _ => pts_yes) (fun _ _ _ _ _ => (e_call G_some_thing hr (by rfl) T.g__law_some_thing T.F__law_some_thing.kp T.b__law_some_thing (a_cons (e_var (pv 0)) (a_cons (e_var (pv 1)) a_nil)))))) a_nil))))
    (b_cons (s_set (ps_set (i := 4) sc_some_recipe.nd rfl (Or.inl rfl) (e_lst a_nil)))
    (b_cons (s_for (wp := [2]) (gd_name (i := 2)) (ps_for PassesOwn.never rfl (i_rng1 (pi_range1 (by rfl) T.z_range (a_cons (e_op op_addA rd_add2 e_int (e_call G_draw (hr.mono (by decide)) (by rfl) T.g__law_draw T.F__law_draw.kp T.b__law_draw (a_cons (e_var (pv 0)) (a_cons (e_var (pv 1)) (a_cons e_int a_nil))))) a_nil))) (pg_name (i := 2) sc_some_recipe.nd rfl (Or.inl rfl))
    (b_one (s_app (ps_expr (pe_bm PySem.F.plainAttrs_list PySem.F.slot_list_append PySem.F.type_list_append mt_append (pv 4) (pa_cons (e_call G_some_step hr (by rfl) T.g__law_some_step T.F__law_some_step.kp T.b__law_some_step (a_cons (e_var (pv 0)) (a_cons (e_var (pv 1)) (a_cons (e_len (pe_callB call_lenA (by rfl) T.z_len PySem.boot_len (a_cons (e_var (pv 3)) a_nil))) (a_cons (e_len (pe_callB call_lenA (by rfl) T.z_len PySem.boot_len (a_cons (e_var (pv 4)) a_nil))) a_nil))))) pa_nil)))))))
    (b_cons (s_set (ps_set (i := 5) sc_some_recipe.nd rfl (Or.inl rfl) (e_call G_some_of (hr.mono (by decide)) (by rfl) T.g__law_some_of T.F__law_some_of.kp T.b__law_some_of (a_cons (e_var (pv 0)) (a_cons (e_var (pv 1)) (a_cons (e_listRg (pe_listRg rfl (by rfl) T.z_list (prg_1 (by rfl) T.z_range (e_len (pe_callB call_lenA (by rfl) T.z_len PySem.boot_len (a_cons (e_var (pv 4)) a_nil)))))) (a_cons (e_call G_draw (hr.mono (by decide)) (by rfl) T.g__law_draw T.F__law_draw.kp T.b__law_draw (a_cons (e_var (pv 0)) (a_cons (e_var (pv 1)) (a_cons e_int a_nil)))) a_nil)))))))
    (b_one (s_frz (is := [3, 4, 5]) (s_retE (ps_ret (e_tup (a_cons (e_var (pv 3)) (a_cons (e_ty call_tuple_of cd_tup (by rfl) T.z_tuple (by decide +kernel) (a_cons (e_var (pv 4)) a_nil)) (a_cons (e_ty call_tuple_of cd_tup (by rfl) T.z_tuple (by decide +kernel) (a_cons (e_sortI (pe_callB (cr_sortedSet rfl) (by rfl) T.z_sorted (by decide +kernel) (pa_cons (pe_callTy (cr_setTupI rfl) (by rfl) T.z_set (by decide +kernel) (a_cons (e_op op_addA rd_add2 (e_var (pv 5)) (e_tup (a_cons (e_op op_sub (RDs.do rd_subD) (e_len (pe_callB call_lenA (by rfl) T.z_len PySem.boot_len (a_cons (e_var (pv 4)) a_nil))) e_int) a_nil))) a_nil)) pa_nil))) a_nil)) a_nil))))))))))))
  exact h
end
def b_format_recipe : FS :=
    (sSeq (sDrop (fCall 1 F_check_recipe (faCons (fVar 0) faNil)))
    (sRet (fCall 1 F_written (faCons (fVar 0) faNil))))
def F_format_recipe : FF := runF 1 1 b_format_recipe
section
variable {P : Program} {w : World} {K : PySem.W.Frag} {mg : Str → Option Value} {base : Heap}
theorem ok_format_recipe (T : Tx K mg w) : FnOk P w K mg base CX0 7 T.f_format_recipe T.d_format_recipe ["recipe"] (spF ⟨K, P, w⟩ 1 F_format_recipe) := by
  have G_check_recipe := ok_check_recipe (P := P) (base := base) T
  have G_written := ok_written (P := P) (base := base) T
  have h : FnOk P w K mg base CX0 7 T.f_format_recipe T.d_format_recipe ["recipe"] (spF ⟨K, P, w⟩ [("recipe" : Str)].length (runF [("recipe" : Str)].length [("recipe" : Str)].length b_format_recipe)) := fn_pi (body := b_format_recipe) T.F_format_recipe sc_format_recipe fun cdv A outer s H E hr =>
    (b_cons (s_drop (ps_expr (e_call G_check_recipe hr (by rfl) T.g_check_recipe T.F_check_recipe.kp T.b_check_recipe (a_cons (e_var (pv 0)) a_nil))))
    (b_one (s_retE (ps_ret (e_call G_written (hr.mono (by decide)) (by rfl) T.g_written T.F_written.kp T.b_written (a_cons (e_var (pv 0)) a_nil))))))
  exact h
end
def b_law : FS :=
    (sSeq (sAsg 2 (fCall 2 F_some_recipe (faCons (fVar 0) (faCons (fVar 1) faNil))))
    (sSeq (sFrz [2] (sAsgT (tgT [(tgN 3), (tgN 4), (tgN 5)]) (fVar 2)))
    (sSeq (sAsg 6 (fLst faNil))
    (sSeq (sFor (itTake (fVar 3)) (tgN 7) [7]
    (sApp 6 (fMt "str" joinG (fC (.str "|")) (faCons (fLc (itSee (fVar 7)) (tgN 8) [8] tT (fIf (bT (fOp2 (seeB (ordD .Gt)) (lenS (faCons (fVar 8) faNil)) (fC (.int 0)))) (fVar 8) (fC (.str "-")))) faNil))))
    (sSeq (sAsg 8 (fOp2 addL (fMt "str" joinG (fC (.str ", ")) (faCons (fVar 6) faNil)) (fC (.str "; "))))
    (sSeq (sAsg 6 (fLst faNil))
    (sSeq (sFor (itTake (fVar 4)) (tgT [(tgN 9), (tgN 10)]) [9, 10, 11, 12, 13]
    (sSeq (sAsg 11 (fVar 9))
    (sSeq (sFor (itTake (fVar 10)) (tgT [(tgN 12), (tgN 13)]) [12, 13]
    (sAsg 11 (fOp2 addL (fOp2 addL (fVar 11) (fIf (bT (fOp2 (seeB (eqD false)) (fVar 12) (fC (.str "thing")))) (fC (.str " t")) (fC (.str " s")))) (fBi (see1 strIG) (faCons (fVar 13) faNil)))))
    (sFrz [11] (sApp 6 (fVar 11))))))
    (sSeq (sAsg 8 (fOp2 addL (fOp2 addL (fOp2 addL (fVar 8) (fMt "str" joinG (fC (.str ", ")) (faCons (fVar 6) faNil))) (fC (.str "; "))) (fMt "str" joinG (fC (.str ", ")) (faCons (fLc (itSee (fVar 5)) (tgN 14) [14] tT (fBi (see1 strIG) (faCons (fVar 14) faNil))) faNil))))
    (sFrz [2, 8] (sRet (fAnd (fOp2 (seeB (eqD false)) (fCall 1 F_format_recipe (faCons (fVar 2) faNil)) (fVar 8)) (fOp2 (seeB (eqD false)) (fCall 1 F_parse_recipe (faCons (fVar 8) faNil)) (fVar 2)))))))))))))
def lawE (ns : List Int) : Ev := (argsE 15 1 [.d (scriptD ns)]).set 1 (some .st)
section
variable {P : Program} {w : World} {K : PySem.W.Frag} {mg : Str → Option Value} {base : Heap}
theorem ok_law_of (hm : ∀ ns : List Int, ns.length ≤ 63 → ∃ e' n', b_law (lawE ns) 0 = some (.rt (.d (.bool true)), e', n')) (T : Tx K mg w) : FnOk P w K mg base CX0 8 T.f_law T.d_law ["_law_script"] (spLaw K) := by
  have G_some_recipe := ok_some_recipe (P := P) (base := base) T
  have G_parse_recipe := ok_parse_recipe (P := P) (base := base) T
  have G_format_recipe := ok_format_recipe (P := P) (base := base) T
  exact law_pi (body := b_law) (i := 1) T.F_law sc_law (by decide) (by decide) hm fun cdv A outer s H E hr =>
    (pss_cons (ps_set (i := 1) sc_law.nd rfl (Or.inl rfl) (pe_lst pa_nil))
    (b_cons (s_set (ps_set (i := 2) sc_law.nd rfl (Or.inl rfl) (e_call G_some_recipe (hr.mono (by decide)) (by rfl) T.g__law_some_recipe T.F__law_some_recipe.kp T.b__law_some_recipe (a_cons (e_var (pv 0)) (a_cons (e_var (pv 1)) a_nil)))))
    (b_cons (s_frz (is := [2]) (s_setT (gd_tup (gds_cons (gd_name (i := 3)) (gds_cons (gd_name (i := 4)) (gds_cons (gd_name (i := 5)) gds_nil))) rfl) (ps_asg (e_var (pv 2)) (pg_tup rfl (pgs_cons (pg_name (i := 3) sc_law.nd rfl (Or.inl rfl)) (pgs_cons (pg_name (i := 4) sc_law.nd rfl (Or.inl rfl)) (pgs_cons (pg_name (i := 5) sc_law.nd rfl (Or.inl rfl)) pgs_nil)))))))
    (b_cons (s_set (ps_set (i := 6) sc_law.nd rfl (Or.inl rfl) (e_lst a_nil)))
    (b_cons (s_for (wp := [7]) (gd_name (i := 7)) (ps_for PassesOwn.never rfl (i_for (e_var (pv 3))) (pg_name (i := 7) sc_law.nd rfl (Or.inl rfl))
    (b_one (s_app (ps_expr (pe_bm PySem.F.plainAttrs_list PySem.F.slot_list_append PySem.F.type_list_append mt_append (pv 6) (pa_cons (e_mt md_join (pe_bm PySem.F.plainAttrs_str PySem.F.slot_str_join PySem.F.type_str_join mt_join e_str (a_cons (e_lc (gd_name (i := 8)) (by decide) (pe_lc (own := [("_law_text", 8)]) rfl sc_law.nd (i_lc (e_var (pv 7))) (blkOk_by (own := [("_law_text", 8)]) (N := ["_law_script", "_law_state", "_law_recipe", "_law_things", "_law_steps", "_law_made", "_law_rows", "_law_thing", "_law_text", "_law_name", "_law_reads", "_law_row", "_law_kind", "_law_one", "_law_number"]) (sc := defScope s_law) (by decide +kernel)) (fun _ _ _ _ _ => (pg_name (i := 8) sc_law.nd rfl (Or.inl rfl))) (fun _ _ _ _ _ => pts_yes) (fun _ _ _ _ _ => (e_if (t_cmp (op_ord (.inr (.inl rfl)) hr.units) (RDs.do rd_ord) (e_len (pe_callB call_lenA (by rfl) T.z_len PySem.boot_len (a_cons (e_var (pv 8)) a_nil))) e_int (nomark _)) (e_var (pv 8)) e_str)))) a_nil))) pa_nil)))))))
    (b_cons (s_set (ps_set (i := 8) sc_law.nd rfl (Or.inl rfl) (e_op op_addA rd_add2 (e_mt md_join (pe_bm PySem.F.plainAttrs_str PySem.F.slot_str_join PySem.F.type_str_join mt_join e_str (a_cons (e_var (pv 6)) a_nil))) e_str)))
    (b_cons (s_set (ps_set (i := 6) sc_law.nd rfl (Or.inl rfl) (e_lst a_nil)))
    (b_cons (s_for (wp := [9, 10, 11, 12, 13]) (gd_tup (gds_cons (gd_name (i := 9)) (gds_cons (gd_name (i := 10)) gds_nil)) rfl) (ps_for PassesOwn.never rfl (i_for (e_var (pv 4))) (pg_tup rfl (pgs_cons (pg_name (i := 9) sc_law.nd rfl (Or.inl rfl)) (pgs_cons (pg_name (i := 10) sc_law.nd rfl (Or.inl rfl)) pgs_nil)))
    (b_cons (s_set (ps_set (i := 11) sc_law.nd rfl (Or.inl rfl) (e_var (pv 9))))
    (b_cons (s_for (wp := [12, 13]) (gd_tup (gds_cons (gd_name (i := 12)) (gds_cons (gd_name (i := 13)) gds_nil)) rfl) (ps_for PassesOwn.never rfl (i_for (e_var (pv 10))) (pg_tup rfl (pgs_cons (pg_name (i := 12) sc_law.nd rfl (Or.inl rfl)) (pgs_cons (pg_name (i := 13) sc_law.nd rfl (Or.inl rfl)) pgs_nil)))
    (b_one (s_set (ps_set (i := 11) sc_law.nd rfl (Or.inl rfl) (e_op op_addA rd_add2 (e_op op_addA rd_add2 (e_var (pv 11)) (e_if (t_cmp (op_eqA hr.units) (RDs.do rd_eqD') (e_var (pv 12)) e_str (nomark _)) e_str e_str)) (e_ty call_str_int cd_strI (by rfl) T.z_str (by decide +kernel) (a_cons (e_var (pv 13)) a_nil))))))))
    (b_one (s_frz (is := [11]) (s_app (ps_expr (pe_bm PySem.F.plainAttrs_list PySem.F.slot_list_append PySem.F.type_list_append mt_append (pv 6) (pa_cons (e_var (pv 11)) pa_nil))))))))))
    (b_cons (s_set (ps_set (i := 8) sc_law.nd rfl (Or.inl rfl) (e_op op_addA rd_add2 (e_op op_addA rd_add2 (e_op op_addA rd_add2 (e_var (pv 8)) (e_mt md_join (pe_bm PySem.F.plainAttrs_str PySem.F.slot_str_join PySem.F.type_str_join mt_join e_str (a_cons (e_var (pv 6)) a_nil)))) e_str) (e_mt md_join (pe_bm PySem.F.plainAttrs_str PySem.F.slot_str_join PySem.F.type_str_join mt_join e_str (a_cons (e_lc (gd_name (i := 14)) (by decide) (pe_lc (own := [("_law_number", 14)]) rfl sc_law.nd (i_lc (e_var (pv 5))) (blkOk_by (own := [("_law_number", 14)]) (N := ["_law_script", "_law_state", "_law_recipe", "_law_things", "_law_steps", "_law_made", "_law_rows", "_law_thing", "_law_text", "_law_name", "_law_reads", "_law_row", "_law_kind", "_law_one", "_law_number"]) (sc := defScope s_law) (by decide +kernel)) (fun _ _ _ _ _ => (pg_name (i := 14) sc_law.nd rfl (Or.inl rfl))) (fun _ _ _ _ _ => pts_yes) (fun _ _ _ _ _ => (e_ty call_str_int cd_strI (by rfl) T.z_str (by decide +kernel) (a_cons (e_var (pv 14)) a_nil))))) a_nil))))))
    (b_one (s_frz (is := [2, 8]) (s_retE (ps_ret (e_and (e_cmp (op_eqA hr.units) (RDs.do rd_eqD') (e_call G_format_recipe hr (by rfl) T.g_format_recipe T.F_format_recipe.kp T.b_format_recipe (a_cons (e_var (pv 2)) a_nil)) (e_var (pv 8)) (nomark _)) (pe_one (e_cmp (op_eqA hr.units) (RDs.do rd_eqD') (e_call G_parse_recipe (hr.mono (by decide)) (by rfl) T.g_parse_recipe T.F_parse_recipe.kp T.b_parse_recipe (a_cons (e_var (pv 8)) a_nil)) (e_var (pv 2)) (nomark _)))))))))))))))))
end
end Sb
namespace Sb
open PySem PySem.Spec PyProof.Rows L2
theorem ordLe_int (i j : Int) : ordD .LtE (.int i) (.int j) = some (.bool (decide (i ≤ j))) := by
  show some (PyData.bool (!PySem.W.dataLt (.int j) (.int i))) = _
  rw [PySem.W.dataLt_int]
  congr 2
  by_cases h : i ≤ j
  · rw [decide_eq_true h, decide_eq_false (by omega)]; rfl
  · rw [decide_eq_false h, decide_eq_true (by omega)]; rfl
theorem ordLt_int (i j : Int) : ordD .Lt (.int i) (.int j) = some (.bool (decide (i < j))) := by
  show some (PyData.bool (PySem.W.dataLt (.int i) (.int j))) = _
  rw [PySem.W.dataLt_int]
theorem ordGt_int (i j : Int) : ordD .Gt (.int i) (.int j) = some (.bool (decide (j < i))) := by
  show some (PyData.bool (PySem.W.dataLt (.int j) (.int i))) = _
  rw [PySem.W.dataLt_int]
theorem ordLt_str (x y : Str) : ordD .Lt (.str x) (.str y) = some (.bool (decide (x.cps.toList < y.cps.toList))) := by
  show some (PyData.bool (PySem.W.dataLt (.str x) (.str y))) = _
  rw [PySem.W.dataLt_str]
theorem ordGt_str (x y : Str) : ordD .Gt (.str x) (.str y) = some (.bool (decide (y.cps.toList < x.cps.toList))) := by
  show some (PyData.bool (PySem.W.dataLt (.str y) (.str x))) = _
  rw [PySem.W.dataLt_str]
/-! ### steps of what is evaluated -/
theorem and_ev {f g : FE} {e n n1 b} (h : f e n = some (.d (.bool b), n1)) : fAnd f g e n = if b = true then g e n1 else some (.d (.bool false), n1) := by
  simp only [fAnd, h]
theorem or_ev {f g : FE} {e n n1 b} (h : f e n = some (.d (.bool b), n1)) : fOr f g e n = if b = true then some (.d (.bool true), n1) else g e n1 := by
  simp only [fOr, h]
theorem seqif {t : FT} {a b rest : FS} {e n n1 c} (h : t e n = some (c, n1)) : sSeq (sIf t a b) rest e n = if c = true then sSeq a rest e n1 else sSeq b rest e n1 := by
  cases c <;> simp [sSeq, sIf, h]
theorem seq_ret {f : FE} {rest : FS} {e n x n1} (h : f e n = some (.d x, n1)) : sSeq (sRet f) rest e n = some (.rt (.d x), e, n1) := by
  simp [sSeq, sRet, h, Sv.own]
theorem seq_nx {rest : FS} {e n} : sSeq sNx rest e n = rest e n := rfl
theorem ret_ev {f : FE} {e n x n1} (h : f e n = some (.d x, n1)) : sRet f e n = some (.rt (.d x), e, n1) := by
  simp [sRet, h, Sv.own]
theorem chain_le {fa fb fc : FE} {e n} {a b c : Int} (h1 : fa e n = some (.d (.int a), n)) (h2 : fb e n = some (.d (.int b), n)) (h3 : fc e n = some (.d (.int c), n)) :
    fChain (seeB (ordD .LtE)) (seeB (ordD .LtE)) fa fb fc e n = some (.d (.bool (decide (a ≤ b) && decide (b ≤ c))), n) := by
  simp only [fChain, h1, h2, seeB, Sv.see, ordLe_int]
  cases decide (a ≤ b) <;> simp [h3, seeB, Sv.see, ordLe_int]
theorem run_rt {N np : Nat} {body : FS} {as : List Sv} {n n' v e'} (hl : as.length = np) (h : body (argsE N np as) n = some (.rt v, e', n')) : runF N np body as n = some (v, n') := by
  simp [runF, hl, h]
theorem run_nx {N np : Nat} {body : FS} {as : List Sv} {n n' e'} (hl : as.length = np) (h : body (argsE N np as) n = some (.nx, e', n')) : runF N np body as n = some (.d .none, n') := by
  simp [runF, hl, h]
theorem set_back {e : Ev} {i : Nat} {o : Option Sv} (h : e[i]? = some none) : wipeE (e.set i o) [i] = e := by
  show (e.set i o).set i none = e
  rw [List.set_set]
  apply List.ext_getElem?
  intro j
  by_cases q : i = j
  · subst q
    have hl := (List.getElem?_eq_some_iff.mp h).1
    rw [List.getElem?_set_self hl, h]
  · rw [List.getElem?_set_ne q]
/-- a loop that goes out at the first item for which p is not -/
theorem loop_all {t : FT} {i : Nat} {e : Ev} {n : Nat} {r : PyData} {p : PyData → Bool} (hi : e[i]? = some none) : ∀ {xs : List PyData}, (∀ x ∈ xs, t (e.set i (some (.d x))) n = some (!p x, n)) →
    (xs.all p = true → forL (tgN i) [i] (sIf t (sRet (fC r)) sNx) xs e n = some (.nx, e, n)) ∧ (xs.all p = false → ∃ e', forL (tgN i) [i] (sIf t (sRet (fC r)) sNx) xs e n = some (.rt (.d r), e', n))
  | [], _ => ⟨fun _ => rfl, fun h => by cases h⟩
  | x :: xs, h => by
    have h0 := h x List.mem_cons_self
    have ih := loop_all (r := r) (p := p) hi (xs := xs) fun y hy => h y (List.mem_cons_of_mem _ hy)
    cases hp : p x with
    | true =>
      rw [hp] at h0
      rw [List.all_cons, hp, Bool.true_and]
      have e1 : forL (tgN i) [i] (sIf t (sRet (fC r)) sNx) (x :: xs) e n = forL (tgN i) [i] (sIf t (sRet (fC r)) sNx) xs e n := by
        simp only [forL, tgN, sIf, h0, Bool.not_true, sNx, set_back hi]
      rw [e1]
      exact ih
    | false =>
      rw [hp] at h0
      rw [List.all_cons, hp, Bool.false_and]
      refine ⟨fun z => (nomatch z), fun _ => ⟨e.set i (some (.d x)), ?_⟩⟩
      simp [forL, tgN, sIf, h0, sRet, fC, Sv.own]
/-- .. and then gives an answer -/
theorem for_all {it : FI} {t : FT} {i : Nat} {e : Ev} {n n1 : Nat} {r : PyData} {p : PyData → Bool} {xs : List PyData} {rest : FS} {v : PyData → Prop} (hi : e[i]? = some none) (hit : it e n = some (xs, n1)) (hl : xs.length ≤ big) (h : ∀ x ∈ xs, t (e.set i (some (.d x))) n1 = some (!p x, n1)) :
    (xs.all p = true → sSeq (sFor it (tgN i) [i] (sIf t (sRet (fC r)) sNx)) rest e n = rest e n1) ∧ (xs.all p = false → ∃ e', sSeq (sFor it (tgN i) [i] (sIf t (sRet (fC r)) sNx)) rest e n = some (.rt (.d r), e', n1)) := by
  obtain ⟨a1, a2⟩ := loop_all (r := r) (p := p) hi h
  refine ⟨fun ha => ?_, fun ha => ?_⟩
  · simp only [sSeq, sFor, hit, if_pos hl, a1 ha]
  · obtain ⟨e', z⟩ := a2 ha
    exact ⟨e', by simp only [sSeq, sFor, hit, if_pos hl, z]⟩
/-! ### a block gives an answer -/
def Gives (s : FS) (e : Ev) (n : Nat) (v : Sv) (n' : Nat) : Prop := ∃ e', s e n = some (.rt v, e', n')
theorem run_g {N np : Nat} {body : FS} {as : List Sv} {n n' v} (hl : as.length = np) (h : Gives body (argsE N np as) n v n') : runF N np body as n = some (v, n') := by
  obtain ⟨e', h⟩ := h
  exact run_rt hl h
theorem g_ret {f : FE} {e n x n1} (h : f e n = some (.d x, n1)) : Gives (sRet f) e n (.d x) n1 := ⟨_, ret_ev h⟩
theorem g_retC {f : FE} {e n xs n1} (h : f e n = some (.cell xs, n1)) : Gives (sRet f) e n (.cell xs) n1 := ⟨e, by simp [sRet, h, Sv.own]⟩
theorem g_seq_if {t : FT} {a b rest : FS} {e n n1 c v n'} (h : t e n = some (c, n1)) (k1 : c = true → Gives (sSeq a rest) e n1 v n') (k2 : c = false → Gives (sSeq b rest) e n1 v n') : Gives (sSeq (sIf t a b) rest) e n v n' := by
  cases c with
  | true => obtain ⟨e', q⟩ := k1 rfl; exact ⟨e', (seqif h).trans q⟩
  | false => obtain ⟨e', q⟩ := k2 rfl; exact ⟨e', (seqif h).trans q⟩
theorem g_seq_ret {f : FE} {rest : FS} {e n x n1} (h : f e n = some (.d x, n1)) : Gives (sSeq (sRet f) rest) e n (.d x) n1 := ⟨e, by simp [sSeq, sRet, h, Sv.own]⟩
theorem g_nx {rest : FS} {e n v n'} (h : Gives rest e n v n') : Gives (sSeq sNx rest) e n v n' := h
theorem g_out {t : FT} {r : PyData} {rest : FS} {e n n1 c v n'} (h : t e n = some (c, n1)) (k1 : c = true → v = .d r ∧ n' = n1) (k2 : c = false → Gives rest e n1 v n') : Gives (sSeq (sIf t (sRet (fC r)) sNx) rest) e n v n' :=
  g_seq_if h (fun z => by obtain ⟨rfl, rfl⟩ := k1 z; exact g_seq_ret rfl) (fun z => g_nx (k2 z))
theorem g_set {i : Nat} {f : FE} {rest : FS} {e n sv n1 v n'} (h : f e n = some (sv, n1)) (ho : sv.own = true) (k : Gives rest (e.set i (some sv)) n1 v n') : Gives (sSeq (sAsg i f) rest) e n v n' := by
  obtain ⟨e', q⟩ := k
  exact ⟨e', by simp only [sSeq, sAsg, h, ho, if_pos]; exact q⟩
theorem g_setT {tg : FG} {f : FE} {rest : FS} {e n x n1 e1 v n'} (h : f e n = some (.d x, n1)) (ht : tg x e = some e1) (k : Gives rest e1 n1 v n') : Gives (sSeq (sAsgT tg f) rest) e n v n' := by
  obtain ⟨e', q⟩ := k
  exact ⟨e', by simp only [sSeq, sAsgT, h, Sv.take, ht]; exact q⟩
theorem g_frz {is : List Nat} {a : FS} {e n v n'} (k : Gives a (frzE e is) n v n') : Gives (sFrz is a) e n v n' := k
theorem g_drop {f : FE} {rest : FS} {e n sv n1 v n'} (h : f e n = some (sv, n1)) (k : Gives rest e n1 v n') : Gives (sSeq (sDrop f) rest) e n v n' := by
  obtain ⟨e', q⟩ := k
  exact ⟨e', by simp only [sSeq, sDrop, h]; exact q⟩
theorem g_all {it : FI} {t : FT} {i : Nat} {e : Ev} {n n1 n' : Nat} {r : PyData} {p : PyData → Bool} {xs : List PyData} {rest : FS} {v : Sv} (hi : e[i]? = some none) (hit : it e n = some (xs, n1)) (hl : xs.length ≤ big) (h : ∀ x ∈ xs, t (e.set i (some (.d x))) n1 = some (!p x, n1))
    (k1 : xs.all p = true → Gives rest e n1 v n') (k2 : xs.all p = false → v = .d r ∧ n' = n1) : Gives (sSeq (sFor it (tgN i) [i] (sIf t (sRet (fC r)) sNx)) rest) e n v n' := by
  obtain ⟨a1, a2⟩ := for_all (v := fun _ => True) (r := r) (p := p) (rest := rest) hi hit hl h
  cases q : xs.all p with
  | true => obtain ⟨e', z⟩ := k1 q; exact ⟨e', (a1 q).trans z⟩
  | false => obtain ⟨rfl, rfl⟩ := k2 q; exact a2 q
theorem m_is_number (d : PyData) (lo hi : Int) (n : Nat) : F_is_number [.d d, .d (.int lo), .d (.int hi)] n = some (.d (.bool (numD d lo hi)), n) := by
  refine run_rt rfl (ret_ev ?_)
  rw [and_ev (b := isInt d) rfl]
  cases d with
  | int i =>
    rw [if_pos (show isInt (.int i) = true from rfl), and_ev (b := true) rfl, if_pos rfl]
    exact chain_le rfl rfl rfl
  | _ => rfl
theorem m_is_tuple (d : PyData) (lo hi : Int) (n : Nat) : F_is_tuple [.d d, .d (.int lo), .d (.int hi)] n = some (.d (.bool (tupD d lo hi)), n) := by
  refine run_rt rfl (ret_ev ?_)
  rw [and_ev (b := isTup d) rfl]
  cases d with
  | tuple ds =>
    rw [if_pos (show isTup (.tuple ds) = true from rfl)]
    exact chain_le rfl rfl rfl
  | _ => rfl
theorem seq_ret_if {t : FT} {r : PyData} {rest : FS} {e n n1 c} (h : t e n = some (c, n1)) : sSeq (sIf t (sRet (fC r)) sNx) rest e n = if c = true then some (.rt (.d r), e, n1) else rest e n1 := by
  rw [seqif h]
  cases c <;> rfl
theorem notb {f : FE} {e n n1 b} (h : f e n = some (.d (.bool b), n1)) : tNotF (bT f) e n = some (!b, n1) := by
  simp [tNotF, bT, h]
theorem bt {f : FE} {e n n1 b} (h : f e n = some (.d (.bool b), n1)) : bT f e n = some (b, n1) := by
  simp [bT, h]
theorem or_t {f g : FT} {e n n1 b} (h : f e n = some (b, n1)) : tOrF f g e n = if b = true then some (true, n1) else g e n1 := by
  cases b <;> simp [tOrF, h]
theorem and_t {f g : FT} {e n n1 b} (h : f e n = some (b, n1)) : tAndF f g e n = if b = true then g e n1 else some (false, n1) := by
  cases b <;> simp [tAndF, h]
theorem cmp_ev {g : PyData → PyData → Option PyData} {fa fb : FE} {e n n1 n2} {a b z : PyData} (h1 : fa e n = some (.d a, n1)) (h2 : fb e n1 = some (.d b, n2)) (h3 : g a b = some z) : fOp2 (seeB g) fa fb e n = some (.d z, n2) := by
  simp [fOp2, h1, h2, seeB, Sv.see, h3]
theorem letter_lt (c k : Nat) : (decide (([c] : List Nat) < [k])) = decide (c < k) := by
  by_cases h : c < k
  · rw [decide_eq_true h, decide_eq_true (List.cons_lt_cons_iff.mpr (.inl h))]
  · rw [decide_eq_false h, decide_eq_false]
    intro z
    rcases List.cons_lt_cons_iff.mp z with z | ⟨_, z⟩
    · exact h z
    · exact absurd z (List.lt_irrefl _)
theorem m_is_text (d : PyData) (k : Int) (n : Nat) (hs : smD d = true) : F_is_text [.d d, .d (.int k)] n = some (.d (.bool (textD d k)), n) := by
  cases d with
  | str z =>
    have hz : z.length ≤ big := of_decide_eq_true hs
    have h1 : (tOrF (tNotF (bT (fIsi isStr (fVar 0)))) (bT (fOp2 (seeB (ordD .Gt)) (lenS (faCons (fVar 0) faNil)) (fVar 1)))) (argsE 3 2 [.d (.str z), .d (.int k)]) n = some (decide (k < (z.length : Int)), n) := by
      rw [or_t (b := false) rfl, if_neg Bool.false_ne_true]
      refine bt (cmp_ev (a := .int z.length) ?_ rfl (ordGt_int _ _))
      simp [lenS, faCons, fVar, argsE, faNil, Sv.arg, see1, Sv.see, lenG, hz]
    show runF 3 2 b_is_text _ _ = _
    have hall : ((signs z).map PyData.str).all (fun d => match d with
        | .str c => letterOk (c.cps.toList.headD 0)
        | _ => false) = z.cps.toList.all letterOk := by
      unfold signs
      rw [List.map_map, List.all_map]
      rfl
    refine run_g rfl (g_out h1 (fun z1 => ?_) (fun z1 => g_all (p := fun d => match d with
        | .str c => letterOk (c.cps.toList.headD 0)
        | _ => false) rfl rfl (by unfold signs; rw [List.length_map, List.length_map, Array.length_toList]; exact hz) (fun x hx => ?_) (fun ha => ?_) (fun ha => ?_)))
    · have hk := of_decide_eq_true z1
      have e1 : textD (.str z) k = false := by
        show (decide ((z.length : Int) ≤ k) && _) = false
        rw [decide_eq_false (by omega)]
        rfl
      rw [e1]
      exact ⟨rfl, rfl⟩
    · obtain ⟨c0, hc, rfl⟩ := List.mem_map.mp hx
      obtain ⟨c, _, rfl⟩ := List.mem_map.mp hc
      rw [or_t (bt (cmp_ev (a := .str ⟨#[c]⟩) (b := .str "a") rfl rfl (ordLt_str _ _)))]
      have l1 : decide ((⟨#[c]⟩ : Str).cps.toList < ("a" : Str).cps.toList) = decide (c < 97) := letter_lt c 97
      have l2 : decide (("z" : Str).cps.toList < (⟨#[c]⟩ : Str).cps.toList) = decide (122 < c) := letter_lt 122 c
      rw [l1]
      by_cases g : c < 97
      · rw [decide_eq_true g, if_pos rfl]
        show _ = some (!(decide (97 ≤ c) && decide (c ≤ 122)), n)
        rw [decide_eq_false (by omega : ¬ 97 ≤ c)]
        rfl
      · rw [decide_eq_false g, if_neg Bool.false_ne_true]
        refine (bt (cmp_ev (a := .str ⟨#[c]⟩) (b := .str "z") rfl rfl (ordGt_str _ _))).trans ?_
        rw [l2]
        show _ = some (!(decide (97 ≤ c) && decide (c ≤ 122)), n)
        rw [decide_eq_true (by omega : 97 ≤ c), Bool.true_and]
        by_cases g2 : 122 < c
        · rw [decide_eq_true g2, decide_eq_false (by omega : ¬ c ≤ 122)]; rfl
        · rw [decide_eq_false g2, decide_eq_true (by omega : c ≤ 122)]; rfl
    · rw [hall] at ha
      have hk := of_decide_eq_false z1
      have e1 : textD (.str z) k = true := by
        show (decide ((z.length : Int) ≤ k) && z.cps.toList.all letterOk) = true
        rw [decide_eq_true (by omega), ha]
        rfl
      rw [e1]
      exact g_ret rfl
    · rw [hall] at ha
      have e1 : textD (.str z) k = false := by
        show (_ && z.cps.toList.all letterOk) = false
        rw [ha, Bool.and_false]
      rw [e1]
      exact ⟨rfl, rfl⟩
  | _ => rfl
/-! ascending -/
theorem len_ev {f : FE} {e n n1} {x : PyData} {r : Sv} (h : f e n = some (.d x, n1)) (g : lenG x = some r) : lenS (faCons f faNil) e n = some (r, n1) := by
  simp [lenS, faCons, h, faNil, Sv.arg, see1, Sv.see, g]
theorem int_ix {ds : List PyData} {d x : PyData} (hd : d = .tuple ds ∨ d = .list ds) {j : Nat} (h : ds[j]? = some x) : ixD d (.int (j : Int)) = some x := by
  rcases hd with rfl | rfl <;> exact atI_nat h
theorem asc_iff : ∀ {ds : List PyData}, ascD ds = true ↔ ∀ (j : Nat) (x y : PyData), ds[j]? = some x → ds[j + 1]? = some y → ltD x y = true := fun {ds} =>
  ⟨fun h j x y h1 h2 => asc_at h h1 h2, fun h => asc_of h⟩
theorem m_is_ascending {d : PyData} {ds : List PyData} (hd : d = .tuple ds ∨ d = .list ds) (n : Nat) (hl : ds.length ≤ big) (hc : ∀ x ∈ ds, ∀ y ∈ ds, cmpOk x y) : F_is_ascending [.d d] n = some (.d (.bool (ascD ds)), n) := by
  have hlen : lenG d = some (.d (.int ds.length)) := by rcases hd with rfl | rfl <;> rfl
  have hit : itRng2 (faCons (fC (.int 1)) (faCons (lenS (faCons (fVar 0) faNil)) faNil)) (argsE 2 1 [.d d]) n = some (intsUp 1 (((ds.length : Int) - 1).toNat), n) := by
    have h1 : lenS (faCons (fVar 0) faNil) (argsE 2 1 [.d d]) n = some (.d (.int ds.length), n) := len_ev rfl hlen
    have hb : smallI (ds.length : Int) = true := by
      unfold smallI
      have : (big : Int) = 100000 := rfl
      rw [decide_eq_true (by omega), decide_eq_true (by omega)]
      rfl
    have h0 : smallI 1 = true := by decide
    simp [itRng2, faCons, h1, fC, faNil, Sv.arg, h0, hb]
  let p : PyData → Bool := fun a => match a with
    | .int i => (match ds[(i - 1).toNat]?, ds[i.toNat]? with
      | some x, some y => ltD x y
      | _, _ => true)
    | _ => true
  have hp : (intsUp 1 (((ds.length : Int) - 1).toNat)).all p = ascD ds := by
    apply Bool.eq_iff_iff.mpr
    rw [asc_iff, List.all_eq_true]
    unfold intsUp
    constructor
    · intro h j x y h1 h2
      have hj := (List.getElem?_eq_some_iff.mp h2).1
      have := h (.int (1 + (j : Int))) (List.mem_map.mpr ⟨j, List.mem_range.mpr (by omega), rfl⟩)
      have t1 : ((1 : Int) + (j : Int) - 1).toNat = j := by omega
      have t2 : ((1 : Int) + (j : Int)).toNat = j + 1 := by omega
      simp only [p, t1, t2, h1, h2] at this
      exact this
    · intro h a ha
      obtain ⟨j, hj, rfl⟩ := List.mem_map.mp ha
      have hj := List.mem_range.mp hj
      have t1 : ((1 : Int) + (j : Int) - 1).toNat = j := by omega
      have t2 : ((1 : Int) + (j : Int)).toNat = j + 1 := by omega
      have h1 : ds[j]? = some ds[j] := List.getElem?_eq_getElem (by omega)
      have h2 : ds[j + 1]? = some ds[j + 1] := List.getElem?_eq_getElem (by omega)
      simp only [p, t1, t2, h1, h2]
      exact h j _ _ h1 h2
  refine run_g rfl (g_all (p := p) rfl hit (by unfold intsUp; rw [List.length_map, List.length_range]; have : (big : Int) = 100000 := rfl; omega) (fun a ha => ?_) (fun ha => ?_) (fun ha => ?_))
  · unfold intsUp at ha
    obtain ⟨j, hj, rfl⟩ := List.mem_map.mp ha
    have hj := List.mem_range.mp hj
    have t0 : (1 : Int) + (j : Int) - 1 = (j : Int) := by omega
    have t1 : ((1 : Int) + (j : Int) - 1).toNat = j := by omega
    have t2 : ((1 : Int) + (j : Int)).toNat = j + 1 := by omega
    have t3 : (1 : Int) + (j : Int) = ((j + 1 : Nat) : Int) := by omega
    have h1 : ds[j]? = some ds[j] := List.getElem?_eq_getElem (by omega)
    have h2 : ds[j + 1]? = some ds[j + 1] := List.getElem?_eq_getElem (by omega)
    obtain ⟨c1, c2, c3, c4⟩ := cmp_data (hc _ (List.getElem_mem (by omega : j < ds.length)) _ (List.getElem_mem (by omega : j + 1 < ds.length)))
    have ho : ordD .GtE ds[j] ds[j + 1] = some (.bool (!ltD ds[j] ds[j + 1])) := by
      unfold ordD ordOk
      have c5 : nonD ds[j] = false := by
        cases q : ds[j] with
        | none => exact absurd q c2
        | _ => rfl
      rw [c1, c5, decide_eq_true (by omega), if_pos (show (true && !false && true) = true from rfl)]
      show some (PyData.bool (!PySem.W.dataLt ds[j] ds[j + 1])) = _
      rw [c4]
    refine (bt (cmp_ev (a := ds[j]) (b := ds[j + 1]) (cmp_ev (a := d) (b := .int (j : Int)) rfl (cmp_ev (a := .int (1 + (j : Int))) (b := .int 1) rfl rfl (show subD (.int (1 + (j : Int))) (.int 1) = some (.int (j : Int)) from by show some (PyData.int (1 + (j : Int) - 1)) = _; rw [t0])) (int_ix hd h1)) (cmp_ev (a := d) (b := .int ((j + 1 : Nat) : Int)) rfl (by rw [← t3]; rfl) (int_ix hd h2)) ho)).trans ?_
    simp only [p, t1, t2, h1, h2]
  · rw [← hp, ha]
    exact g_ret rfl
  · rw [← hp, ha]
    exact ⟨rfl, rfl⟩
theorem ret_call {F : FF} {fa : FA} {np : Nat} {e n n1 n2 as x} (h : fa e n = some (as, n1)) (hl : as.length = np) (hF : F as n1 = some (.d x, n2)) : sRet (fCall np F fa) e n = some (.rt (.d x), e, n2) := by
  simp [sRet, fCall, h, hl, hF, Sv.own]
theorem call_ev {F : FF} {fa : FA} {np : Nat} {e n n1 as r} (h : fa e n = some (as, n1)) (hl : as.length = np) (hF : F as n1 = r) : fCall np F fa e n = r := by
  simp [fCall, h, hl, hF]
theorem smDs_mem {ds : List PyData} (h : smDs ds = true) : ∀ x ∈ ds, smD x = true := fun x hx => by
  obtain ⟨i, hi⟩ := List.getElem?_of_mem hx
  exact smDs_get h hi
theorem cmp_text {x y : PyData} {k k' : Int} (h1 : textD x k = true) (h2 : textD y k' = true) : cmpOk x y := by
  cases x <;> cases y <;> first | trivial | cases h1 | cases h2
theorem tup_mem {d : PyData} {lo hi : Int} (h : tupD d lo hi = true) : ∃ ds, d = .tuple ds ∧ lo ≤ (ds.length : Int) ∧ (ds.length : Int) ≤ hi := by
  cases d with
  | tuple ds =>
    unfold tupD at h
    rw [Bool.and_eq_true, decide_eq_true_eq, decide_eq_true_eq] at h
    exact ⟨ds, rfl, h.1, h.2⟩
  | _ => cases h
/-- if not is_tuple(..): return False -/
theorem g_tup {fa : FA} {rest : FS} {e n d} {lo hi : Int} {v n'} (h : fa e n = some ([.d d, .d (.int lo), .d (.int hi)], n)) (k1 : tupD d lo hi = false → v = .d (.bool false) ∧ n' = n) (k2 : ∀ ds, d = .tuple ds → lo ≤ (ds.length : Int) → (ds.length : Int) ≤ hi → Gives rest e n v n') :
    Gives (sSeq (sIf (tNotF (bT (fCall 3 F_is_tuple fa))) (sRet (fC (.bool false))) sNx) rest) e n v n' :=
  g_out (notb (call_ev h rfl (m_is_tuple d lo hi n))) (fun z => k1 (by simpa using z)) (fun z => by
    obtain ⟨ds, e1, e2, e3⟩ := tup_mem (d := d) (lo := lo) (hi := hi) (by simpa using z)
    exact k2 ds e1 e2 e3)
theorem tup_yes {ds : List PyData} {lo hi : Int} (h1 : lo ≤ (ds.length : Int)) (h2 : (ds.length : Int) ≤ hi) : tupD (.tuple ds) lo hi = true := by
  show (decide _ && decide _) = true
  rw [decide_eq_true h1, decide_eq_true h2]
  rfl
theorem bigI : (big : Int) = 100000 := rfl
theorem m_is_thing (d : PyData) (n : Nat) (hs : smD d = true) : F_is_thing [.d d] n = some (.d (.bool (thingD d)), n) := by
  refine run_g rfl (g_tup (d := d) (lo := 1) (hi := 4) rfl (fun ht => ?_) (fun ds e1 l1 l2 => ?_))
  · unfold thingD
    rw [ht]
    exact ⟨rfl, rfl⟩
  · subst e1
    have hm := smDs_mem (ds := ds) hs
    have e1 : thingD (.tuple ds) = (ds.all (fun x => textD x 4) && ascD ds) := by
      show (tupD (.tuple ds) 1 4 && ds.all (fun x => textD x 4) && ascD ds) = _
      rw [tup_yes l1 l2]
      rfl
    have hb := bigI
    refine g_all (p := fun x => textD x 4) rfl rfl (by omega) (fun x hx => notb (call_ev rfl rfl (m_is_text x 4 n (hm x hx)))) (fun ha => ?_) (fun ha => ?_)
    · rw [e1, ha]
      refine g_ret (call_ev rfl rfl (m_is_ascending (.inl rfl) n (by omega) fun x hx y hy => cmp_text (List.all_eq_true.mp ha x hx) (List.all_eq_true.mp ha y hy)))
    · rw [e1, ha]
      exact ⟨rfl, rfl⟩
/-! a loop that carries something -/
theorem loop_fold {A : Type} {tg : FG} {wp : List Nat} {body : FS} {n : Nat} {r : Sv} (E : A → Ev) (g : A → PyData → A) (p : PyData → Bool) : ∀ (xs : List PyData) (a : A),
    (∀ x ∈ xs, ∀ a, ∃ e1, tg x (E a) = some e1 ∧ (p x = true → ∃ e2, body e1 n = some (.nx, e2, n) ∧ wipeE e2 wp = E (g a x)) ∧ (p x = false → ∃ e2, body e1 n = some (.rt r, e2, n))) →
    (xs.all p = true → forL tg wp body xs (E a) n = some (.nx, E (xs.foldl g a), n)) ∧ (xs.all p = false → ∃ e', forL tg wp body xs (E a) n = some (.rt r, e', n))
  | [], a, _ => ⟨fun _ => rfl, fun h => by cases h⟩
  | x :: xs, a, h => by
    obtain ⟨e1, t1, h1, h2⟩ := h x List.mem_cons_self a
    cases hp : p x with
    | true =>
      obtain ⟨e2, b2, w2⟩ := h1 hp
      have ih := loop_fold E g p xs (g a x) fun y hy => h y (List.mem_cons_of_mem _ hy)
      have e0 : forL tg wp body (x :: xs) (E a) n = forL tg wp body xs (E (g a x)) n := by
        simp only [forL, t1, b2, w2]
      rw [List.all_cons, hp, Bool.true_and, e0, List.foldl_cons]
      exact ih
    | false =>
      obtain ⟨e2, b2⟩ := h2 hp
      rw [List.all_cons, hp, Bool.false_and]
      exact ⟨fun z => (nomatch z), fun _ => ⟨e2, by simp only [forL, t1, b2]⟩⟩
theorem g_fold {A : Type} {it : FI} {tg : FG} {wp : List Nat} {body rest : FS} {e : Ev} {n n1 n' : Nat} {r v : Sv} {xs : List PyData} (E : A → Ev) (g : A → PyData → A) (p : PyData → Bool) (a : A) (hit : it e n = some (xs, n1)) (hl : xs.length ≤ big) (he : e = E a)
    (h : ∀ x ∈ xs, ∀ a, ∃ e1, tg x (E a) = some e1 ∧ (p x = true → ∃ e2, body e1 n1 = some (.nx, e2, n1) ∧ wipeE e2 wp = E (g a x)) ∧ (p x = false → ∃ e2, body e1 n1 = some (.rt r, e2, n1)))
    (k1 : xs.all p = true → Gives rest (E (xs.foldl g a)) n1 v n') (k2 : xs.all p = false → v = r ∧ n' = n1) : Gives (sSeq (sFor it tg wp body) rest) e n v n' := by
  obtain ⟨a1, a2⟩ := loop_fold E g p xs a h
  subst he
  cases q : xs.all p with
  | true =>
    obtain ⟨e', z⟩ := k1 q
    exact ⟨e', by simp only [sSeq, sFor, hit, if_pos hl, a1 q]; exact z⟩
  | false =>
    obtain ⟨rfl, rfl⟩ := k2 q
    obtain ⟨e', z⟩ := a2 q
    exact ⟨e', by simp only [sSeq, sFor, hit, if_pos hl, z]⟩
/-! ### things, readings, steps, made, recipes -/
theorem mul_ev {fa fb : FE} {e n} {a b : Int} (h1 : fa e n = some (.d (.int a), n)) (h2 : fb e n = some (.d (.int b), n)) (hb : -(2 ^ 64) < b ∧ b < 2 ^ 64) : fOp2 (seeB mulD) fa fb e n = some (.d (.int (a * b)), n) := by
  refine cmp_ev h1 h2 ?_
  unfold mulD
  exact if_pos (.inr hb)
theorem tlen {ds : List PyData} : lenG (.tuple ds) = some (.d (.int ds.length)) := rfl
def wid (d : PyData) : Int := ((seqD d).length : Int)
theorem prod_fold : ∀ (ds : List PyData) (m : Int), ds.foldl (fun a d => a * wid d) m = m * (prodD ds : Int)
  | [], m => by rw [List.foldl_nil, prodD]; omega
  | d :: ds, m => by
    rw [List.foldl_cons, prod_fold ds, prodD, Int.natCast_mul, ← Int.mul_assoc]
    rfl
theorem m_are_things (d : PyData) (n : Nat) (hs : smD d = true) : F_are_things [.d d] n = some (.d (.bool (thingsD d)), n) := by
  refine run_g rfl (g_tup (d := d) (lo := 1) (hi := 5) rfl (fun ht => ?_) (fun ds e1 l1 l2 => ?_))
  · unfold thingsD
    rw [ht]
    exact ⟨rfl, rfl⟩
  · subst e1
    have hm := smDs_mem (ds := ds) hs
    have hb := bigI
    have e1 : thingsD (.tuple ds) = (ds.all thingD && decide (prodD ds ≤ 256)) := by
      show (tupD (.tuple ds) 1 5 && ds.all thingD && decide (prodD ds ≤ 256)) = _
      rw [tup_yes l1 l2]
      rfl
    rw [e1]
    refine g_set (sv := .d (.int 1)) rfl rfl (g_fold (r := .d (.bool false)) (fun m : Int => [some (.d (.tuple ds)), some (.d (.int m)), none]) (fun m x => m * wid x) thingD 1 (xs := ds) (n1 := n) rfl (by omega) rfl (fun x hx m => ⟨[some (.d (.tuple ds)), some (.d (.int m)), some (.d x)], rfl, fun hp => ?_, fun hp => ?_⟩) (fun ha => ?_) (fun ha => ?_))
    · have h0 := notb (call_ev (fa := faCons (fVar 2) faNil) (e := [some (.d (.tuple ds)), some (.d (.int m)), some (.d x)]) (np := 1) rfl rfl (m_is_thing x n (hm x hx)))
      rw [hp] at h0
      obtain ⟨es, ex, _, l4⟩ := tup_mem (d := x) (lo := 1) (hi := 4) (by
        unfold thingD at hp
        rw [Bool.and_eq_true, Bool.and_eq_true] at hp
        exact hp.1.1)
      subst ex
      have q := mul_ev (fa := fVar 1) (fb := lenS (faCons (fVar 2) faNil)) (e := [some (.d (.tuple ds)), some (.d (.int m)), some (.d (.tuple es))]) (n := n) (a := m) (b := es.length) rfl (len_ev rfl tlen) (by omega)
      refine ⟨[some (.d (.tuple ds)), some (.d (.int (m * es.length))), some (.d (.tuple es))], ((seq_ret_if h0).trans (if_neg Bool.false_ne_true)).trans ?_, rfl⟩
      simp only [sAsg, q, Sv.own, if_pos]
      rfl
    · have h0 := notb (call_ev (fa := faCons (fVar 2) faNil) (e := [some (.d (.tuple ds)), some (.d (.int m)), some (.d x)]) (np := 1) rfl rfl (m_is_thing x n (hm x hx)))
      rw [hp] at h0
      exact ⟨_, (seq_ret_if h0).trans (if_pos rfl)⟩
    · rw [ha, prod_fold, Int.one_mul, Bool.true_and, show decide (prodD ds ≤ 256) = decide ((prodD ds : Int) ≤ 256) from decide_eq_decide.mpr (by omega)]
      exact g_frz (g_ret (cmp_ev (a := .int (prodD ds : Nat)) (b := .int 256) rfl rfl (ordLe_int _ _)))
    · rw [ha]
      exact ⟨rfl, rfl⟩
theorem eq_str (x y : Str) : eqD false (.str x) (.str y) = some (.bool (decide (x = y))) := by
  show some (PyData.bool (decide (x = y) != false)) = _
  rw [Bool.bne_false]
theorem reading_no {d : PyData} {m s : Int} (h : tupD d 2 2 = false) : readingD d m s = false := by
  unfold readingD
  split
  · cases h
  · rfl
theorem m_is_reading (d : PyData) (m st : Int) (n : Nat) : F_is_reading [.d d, .d (.int m), .d (.int st)] n = some (.d (.bool (readingD d m st)), n) := by
  refine run_g rfl (g_tup (d := d) (lo := 2) (hi := 2) rfl (fun ht => ?_) (fun ds e1 l1 l2 => ?_))
  · rw [reading_no ht]
    exact ⟨rfl, rfl⟩
  · subst e1
    match ds, l1, l2 with
    | [w, x], _, _ =>
      refine g_setT (x := .tuple [w, x]) rfl rfl (g_out (c := !isStr w) (notb rfl) (fun z => ?_) (fun z => ?_))
      · cases w <;> first | exact ⟨rfl, rfl⟩ | cases z
      · cases w with
        | str w =>
          refine g_seq_if (c := decide (w = ("thing" : Str))) (bt (cmp_ev (a := .str w) (b := .str "thing") rfl rfl (eq_str w "thing"))) (fun hw => ?_) (fun hw => ?_)
          · have hw := of_decide_eq_true hw
            have e1 : readingD (.tuple [.str w, x]) m st = numD x 0 (m - 1) := if_pos hw
            rw [e1]
            exact g_seq_ret (call_ev (as := [.d x, .d (.int 0), .d (.int (m - 1))]) rfl rfl (m_is_number x 0 (m - 1) n))
          · have hw : w ≠ ("thing" : Str) := of_decide_eq_false hw
            have e1 : readingD (.tuple [.str w, x]) m st = (decide (w = ("step" : Str)) && numD x 0 (st - 1)) := if_neg hw
            rw [e1]
            refine g_nx (g_ret ?_)
            rw [and_ev (cmp_ev (a := .str w) (b := .str "step") rfl rfl (eq_str w "step"))]
            by_cases hs : w = ("step" : Str)
            · rw [decide_eq_true hs, if_pos rfl]
              exact call_ev (as := [.d x, .d (.int 0), .d (.int (st - 1))]) rfl rfl (m_is_number x 0 (st - 1) n)
            · rw [decide_eq_false hs, if_neg Bool.false_ne_true]
              rfl
        | _ => cases z
theorem step_no {d : PyData} {m s : Int} (h : tupD d 2 2 = false) : stepD d m s = false := by
  unfold stepD
  split
  · cases h
  · rfl
theorem m_is_step (d : PyData) (m st : Int) (n : Nat) : F_is_step [.d d, .d (.int m), .d (.int st)] n = some (.d (.bool (stepD d m st)), n) := by
  refine run_g rfl (g_tup (d := d) (lo := 2) (hi := 2) rfl (fun ht => ?_) (fun ds e1 l1 l2 => ?_))
  · rw [step_no ht]
    exact ⟨rfl, rfl⟩
  · subst e1
    match ds, l1, l2 with
    | [o, rs], _, _ =>
      refine g_setT (x := .tuple [o, rs]) rfl rfl ?_
      cases o with
      | str o =>
        have ht : tOrF (tNotF (bT (fIsi isStr (fVar 3)))) (bT (fInM true mREADINGS (fVar 3))) [some (.d (.tuple [.str o, rs])), some (.d (.int m)), some (.d (.int st)), some (.d (.str o)), some (.d rs), none] n = some (!(lookM mREADINGS o).isSome, n) := by
          rw [or_t (b := false) rfl, if_neg Bool.false_ne_true]
          refine bt ?_
          show some (Sv.d (PyData.bool ((lookM mREADINGS o).isSome != true)), n) = _
          rw [Bool.bne_true]
        have e0 : stepD (.tuple [.str o, rs]) m st = (match lookM mREADINGS o with
          | some k => tupD rs k k && (seqD rs).all (fun x => readingD x m st)
          | none => false) := rfl
        refine g_out (c := !(lookM mREADINGS o).isSome) ht (fun z => ?_) (fun z => ?_)
        · rw [e0]
          cases q : lookM mREADINGS o with
          | none => exact ⟨rfl, rfl⟩
          | some k => rw [q] at z; cases z
        · cases q : lookM mREADINGS o with
          | none => rw [q] at z; cases z
          | some k =>
            rw [e0, q]
            dsimp only
            have hix : fIxM mREADINGS (fVar 3) [some (.d (.tuple [.str o, rs])), some (.d (.int m)), some (.d (.int st)), some (.d (.str o)), some (.d rs), none] n = some (.d (.int k), n) := by
              show (match lookM mREADINGS o with
                | some i => some (Sv.d (.int i), n)
                | none => none) = _
              rw [q]
            have hargs : faCons (fVar 4) (faCons (fIxM mREADINGS (fVar 3)) (faCons (fIxM mREADINGS (fVar 3)) faNil)) [some (.d (.tuple [.str o, rs])), some (.d (.int m)), some (.d (.int st)), some (.d (.str o)), some (.d rs), none] n = some ([.d rs, .d (.int k), .d (.int k)], n) := by
              have h4 : fVar 4 [some (.d (.tuple [.str o, rs])), some (.d (.int m)), some (.d (.int st)), some (.d (.str o)), some (.d rs), none] n = some (.d rs, n) := rfl
              simp [faCons, hix, h4, faNil, Sv.arg]
            refine g_tup (d := rs) (lo := k) (hi := k) hargs (fun ht => ?_) (fun es e1 l1 l2 => ?_)
            · rw [ht]
              exact ⟨rfl, rfl⟩
            · subst e1
              have k3 : k ≤ 3 := by
                have : ∀ p ∈ mREADINGS, p.2 ≤ 3 := by decide
                have gen : ∀ (l : List (Str × Int)), lookM l o = some k → ∃ p ∈ l, p.2 = k := by
                  intro l
                  induction l with
                  | nil => intro h; cases h
                  | cons p l ih =>
                    obtain ⟨y, i⟩ := p
                    intro h
                    unfold lookM at h
                    split at h
                    · cases h; exact ⟨(y, k), List.mem_cons_self, rfl⟩
                    · obtain ⟨p, hp, e⟩ := ih h; exact ⟨p, List.mem_cons_of_mem _ hp, e⟩
                obtain ⟨p, hp, e⟩ := gen mREADINGS q
                rw [← e]
                exact this p hp
              have hb := bigI
              rw [tup_yes l1 l2, Bool.true_and]
              refine g_all (p := fun x => readingD x m st) (xs := es) rfl rfl (by omega) (fun x hx => notb (call_ev (as := [.d x, .d (.int m), .d (.int st)]) rfl rfl (m_is_reading x m st n))) (fun ha => ?_) (fun ha => ?_)
              · show Gives _ _ _ (.d (.bool (es.all fun x => readingD x m st))) _
                rw [ha]
                exact g_ret rfl
              · show Sv.d (.bool (es.all fun x => readingD x m st)) = _ ∧ _
                rw [ha]
                exact ⟨rfl, rfl⟩
      | _ => exact g_out (c := true) rfl (fun _ => ⟨rfl, rfl⟩) (fun z => nomatch z)
theorem stepsAll_iff : ∀ {ds : List PyData} {m : Int} {s : Nat}, stepsAllD ds m s = (List.range ds.length).all fun j => stepD (ds.getD j .none) m ((s + j : Nat) : Int)
  | [], _, _ => rfl
  | d :: ds, m, s => by
    rw [stepsAllD, stepsAll_iff, List.length_cons, List.range_succ_eq_map, List.all_cons, List.all_map]
    congr 1
    congr 1
    funext j
    show stepD (ds.getD j .none) m ((s + 1 + j : Nat) : Int) = stepD (ds.getD j .none) m ((s + (j + 1) : Nat) : Int)
    rw [show s + 1 + j = s + (j + 1) by omega]
theorem m_are_steps (d : PyData) (m : Int) (n : Nat) : F_are_steps [.d d, .d (.int m)] n = some (.d (.bool (stepsD d m)), n) := by
  refine run_g rfl (g_tup (d := d) (lo := 1) (hi := 8) rfl (fun ht => ?_) (fun ds e1 l1 l2 => ?_))
  · unfold stepsD
    rw [ht]
    exact ⟨rfl, rfl⟩
  · subst e1
    have hb := bigI
    have e1 : stepsD (.tuple ds) m = stepsAllD ds m 0 := by
      show (tupD (.tuple ds) 1 8 && stepsAllD ds m 0) = _
      rw [tup_yes l1 l2]
      rfl
    have hit : itRng1 (faCons (lenS (faCons (fVar 0) faNil)) faNil) (argsE 3 2 [.d (.tuple ds), .d (.int m)]) n = some (intsUp 0 ds.length, n) := by
      have hs : smallI (ds.length : Int) = true := by
        unfold smallI
        rw [decide_eq_true (by omega), decide_eq_true (by omega)]
        rfl
      show (if smallI (ds.length : Int) = true then some (intsUp 0 ((ds.length : Int)).toNat, n) else none) = _
      rw [if_pos hs]
      rfl
    let p : PyData → Bool := fun a => match a with
      | .int i => stepD (ds.getD i.toNat .none) m i
      | _ => true
    have pj : ∀ j : Nat, p (.int (j : Int)) = stepD (ds.getD j .none) m (j : Int) := fun j => by
      show stepD (ds.getD ((j : Int)).toNat .none) m (j : Int) = _
      rw [Int.toNat_natCast]
    have hp : (intsUp 0 ds.length).all p = stepsAllD ds m 0 := by
      rw [stepsAll_iff]
      unfold intsUp
      rw [List.all_map]
      exact congrArg (List.all (List.range ds.length)) (funext fun j => by
        have t0 : (0 : Int) + (j : Int) = (j : Int) := by omega
        have t1 : 0 + j = j := by omega
        show p (.int ((0 : Int) + (j : Int))) = _
        rw [t0, t1]
        exact pj j)
    rw [e1, ← hp]
    refine g_all (p := p) rfl hit (by unfold intsUp; rw [List.length_map, List.length_range]; omega) (fun a ha => ?_) (fun ha => ?_) (fun ha => ?_)
    · unfold intsUp at ha
      obtain ⟨j, hj, rfl⟩ := List.mem_map.mp ha
      have hj := List.mem_range.mp hj
      have t0 : (0 : Int) + (j : Int) = (j : Int) := by omega
      rw [t0]
      have hx : ds[j]? = some (ds.getD j .none) := by rw [List.getElem?_eq_getElem hj, List.getD_eq_getElem?_getD, List.getElem?_eq_getElem hj]; rfl
      rw [pj j]
      refine notb (call_ev (as := [.d (ds.getD j .none), .d (.int m), .d (.int j)]) ?_ rfl (m_is_step _ m j n))
      have q := cmp_ev (g := ixD) (fa := fVar 0) (fb := fVar 2) (e := [some (.d (.tuple ds)), some (.d (.int m)), some (.d (.int j))]) (n := n) (n1 := n) (n2 := n) (a := .tuple ds) (b := .int j) rfl rfl (int_ix (.inl rfl) hx)
      show faCons _ _ [some (.d (.tuple ds)), some (.d (.int m)), some (.d (.int j))] n = _
      simp only [faCons, q, faNil, Sv.arg]
      rfl
    · rw [ha]
      exact g_ret rfl
    · rw [ha]
      exact ⟨rfl, rfl⟩
theorem num_int {d : PyData} {lo hi : Int} (h : numD d lo hi = true) : ∃ i, d = .int i ∧ lo ≤ i ∧ i ≤ hi := by
  cases d with
  | int i =>
    unfold numD at h
    rw [Bool.and_eq_true, decide_eq_true_eq, decide_eq_true_eq] at h
    exact ⟨i, rfl, h.1, h.2⟩
  | _ => cases h
theorem m_is_made (d : PyData) (s : Int) (n : Nat) : F_is_made [.d d, .d (.int s)] n = some (.d (.bool (madeD d s)), n) := by
  refine run_g rfl (g_tup (d := d) (lo := 1) (hi := 3) rfl (fun ht => ?_) (fun ds e1 l1 l2 => ?_))
  · unfold madeD
    rw [ht]
    exact ⟨rfl, rfl⟩
  · subst e1
    have hb := bigI
    have e1 : madeD (.tuple ds) s = (ds.all (fun x => numD x 0 (s - 1)) && ascD ds) := by
      show (tupD (.tuple ds) 1 3 && ds.all (fun x => numD x 0 (s - 1)) && ascD ds) = _
      rw [tup_yes l1 l2]
      rfl
    refine g_all (p := fun x => numD x 0 (s - 1)) (xs := ds) rfl rfl (by omega) (fun x hx => notb (call_ev (as := [.d x, .d (.int 0), .d (.int (s - 1))]) rfl rfl (m_is_number x 0 (s - 1) n))) (fun ha => ?_) (fun ha => ?_)
    · rw [e1, ha]
      refine g_ret (call_ev (as := [.d (.tuple ds)]) rfl rfl (m_is_ascending (.inl rfl) n (by omega) fun x hx y hy => ?_))
      obtain ⟨i, rfl, _⟩ := num_int (List.all_eq_true.mp ha x hx)
      obtain ⟨j, rfl, _⟩ := num_int (List.all_eq_true.mp ha y hy)
      trivial
    · rw [e1, ha]
      exact ⟨rfl, rfl⟩
theorem m_is_recipe (d : PyData) (n : Nat) (hs : smD d = true) : F_is_recipe [.d d] n = some (.d (.bool (recipeD d)), n) := by
  refine run_g rfl (g_tup (d := d) (lo := 3) (hi := 3) rfl (fun ht => ?_) (fun ds e1 l1 l2 => ?_))
  · have e1 : recipeD d = false := by
      unfold recipeD
      split
      · cases ht
      · rfl
    rw [e1]
    exact ⟨rfl, rfl⟩
  · subst e1
    match ds, l1, l2 with
    | [t, s, m], _, _ =>
      have ht : smD t = true := smDs_mem (ds := [t, s, m]) hs t List.mem_cons_self
      refine g_setT (x := .tuple [t, s, m]) rfl rfl (g_ret ?_)
      show fAnd _ _ [some (.d (.tuple [t, s, m])), some (.d t), some (.d s), some (.d m)] n = _
      have e1 : recipeD (.tuple [t, s, m]) = (thingsD t && (stepsD s ((seqD t).length : Int) && madeD m ((seqD s).length : Int))) := rfl
      have k1 := call_ev (fa := faCons (fVar 1) faNil) (e := [some (.d (.tuple [t, s, m])), some (.d t), some (.d s), some (.d m)]) (np := 1) (as := [.d t]) rfl rfl (m_are_things t n ht)
      rw [e1, and_ev k1]
      cases h1 : thingsD t with
      | false => rfl
      | true =>
        have h1' := h1
        unfold thingsD at h1'
        rw [Bool.and_eq_true, Bool.and_eq_true] at h1'
        obtain ⟨ts, rfl, _, _⟩ := tup_mem h1'.1.1
        have k2 := call_ev (fa := faCons (fVar 2) (faCons (lenS (faCons (fVar 1) faNil)) faNil)) (e := [some (.d (.tuple [.tuple ts, s, m])), some (.d (.tuple ts)), some (.d s), some (.d m)]) (n := n) (np := 2) (as := [.d s, .d (.int ts.length)]) rfl rfl (m_are_steps s ts.length n)
        rw [if_pos rfl, and_ev k2]
        show (if stepsD s (ts.length : Int) = true then _ else _) = (some (Sv.d (.bool (true && (stepsD s (ts.length : Int) && madeD m ((seqD s).length : Int)))), n) : Option (Sv × Nat))
        cases h2 : stepsD s (ts.length : Int) with
        | false => rfl
        | true =>
          have h2' := h2
          unfold stepsD at h2'
          rw [Bool.and_eq_true] at h2'
          obtain ⟨ss, rfl, _, _⟩ := tup_mem h2'.1
          rw [if_pos rfl]
          exact call_ev (as := [.d m, .d (.int ss.length)]) rfl rfl (m_is_made m ss.length n)
end Sb

namespace Sb
open PySem PySem.Spec PyProof.Rows L2
/-! ### the generator's draws -/
theorem add_ev {fa fb : FE} {e n n1 n2} {a b : Int} (h1 : fa e n = some (.d (.int a), n1)) (h2 : fb e n1 = some (.d (.int b), n2)) : fOp2 addL fa fb e n = some (.d (.int (a + b)), n2) := by
  simp only [fOp2, h1, h2]
  rfl
theorem cmp_see {g : PyData → PyData → Option PyData} {fa fb : FE} {e n n1 n2} {sa sb : Sv} {a b z : PyData} (h1 : fa e n = some (sa, n1)) (s1 : sa.see = some a) (h2 : fb e n1 = some (sb, n2)) (s2 : sb.see = some b) (h3 : g a b = some z) : fOp2 (seeB g) fa fb e n = some (.d z, n2) := by
  simp [fOp2, h1, h2, seeB, s1, s2, h3]
theorem eq_nil {xs : List PyData} (neg : Bool) (h : SeqAt.shaped (.list xs) = true) : eqD neg (.list xs) (.list []) = some (.bool (xs.isEmpty != neg)) := by
  show (if SeqAt.shaped (.list xs) = true ∧ SeqAt.shaped (.list []) = true then some (PyData.bool (PyData.eqv (.list xs) (.list []) != neg)) else none) = _
  rw [if_pos ⟨h, shaped_nil⟩, eqv_nil]
theorem sc_len (ns : List Int) : lenG (scriptD ns) = some (.d (.int ns.length)) := by
  show some (Sv.d (.int (ns.map PyData.int).length)) = _
  rw [List.length_map]
theorem sc_at {ns : List Int} {k : Nat} (h : k < ns.length) : ixD (scriptD ns) (.int (k : Int)) = some (.int ns[k]) :=
  int_ix (ds := ns.map .int) (.inr rfl) (by rw [List.getElem?_map, List.getElem?_eq_getElem h]; rfl)
theorem cell_loop (sc k : Sv) (n : Nat) : ∀ (xs : List PyData) (s : Int), ∃ s' : Int, forL (tgN 3) [3] (sAsg 2 (fOp2 (seeB fdivD) (fVar 2) (fC (.int 1000003)))) xs [some sc, some k, some (.d (.int s)), none] n = some (.nx, [some sc, some k, some (.d (.int s')), none], n)
  | [], s => ⟨s, rfl⟩
  | x :: xs, s => by
    obtain ⟨s', h⟩ := cell_loop sc k n xs (s.fdiv 1000003)
    exact ⟨s', h⟩
theorem m_cell (ns : List Int) (hn : ns.length ≤ 63) (k n : Nat) : ∃ i : Int, F_cell_at [.d (scriptD ns), .d (.int k)] n = some (.d (.int i), n) := by
  have hlen : ∀ a b, lenS (faCons (fVar 0) faNil) [some (.d (scriptD ns)), some (.d (.int k)), a, b] n = some (.d (.int ns.length), n) := fun a b => len_ev rfl (sc_len ns)
  have hlt := bt (cmp_ev (g := ordD .Lt) (fa := fVar 1) (e := [some (.d (scriptD ns)), some (.d (.int k)), none, none]) rfl (hlen none none) (ordLt_int k ns.length))
  have heq : bT (fOp2 (seeB (eqD false)) (fVar 0) (fLst faNil)) [some (.d (scriptD ns)), some (.d (.int k)), none, none] n = some (ns.isEmpty, n) := by
    refine (bt (cmp_see (a := .list (ns.map PyData.int)) (b := .list []) rfl rfl rfl rfl (eq_nil false (shaped_ints ns)))).trans ?_
    rw [Bool.bne_false]
    cases ns <;> rfl
  by_cases hk : k < ns.length
  · exact ⟨ns[k], run_g rfl (g_seq_if hlt (fun _ => g_seq_ret (cmp_ev rfl rfl (sc_at hk))) (fun z => absurd (of_decide_eq_false z) (by omega)))⟩
  · by_cases h0 : ns.length = 0
    · exact ⟨0, run_g rfl (g_seq_if hlt (fun z => absurd (of_decide_eq_true z) (by omega)) (fun _ => g_nx (g_seq_if heq (fun _ => g_seq_ret rfl) (fun z => by cases ns with
        | nil => cases z
        | cons a b => exact absurd h0 (by rw [List.length_cons]; omega)))))⟩
    · have hm : ∀ a b, fOp2 (seeB modD) (fVar 1) (lenS (faCons (fVar 0) faNil)) [some (.d (scriptD ns)), some (.d (.int k)), a, b] n = some (.d (.int ((k % ns.length : Nat) : Int)), n) := fun a b => by
        refine cmp_ev rfl (hlen a b) ?_
        show (if (ns.length : Int) ≠ 0 then some (PyData.int ((k : Int).fmod ns.length)) else none) = _
        rw [if_pos (by omega), Int.fmod_eq_emod_of_nonneg _ (Int.natCast_nonneg _), ← Int.natCast_emod]
      have hml : k % ns.length < ns.length := Nat.mod_lt _ (by omega)
      have hix : ∀ a b, fOp2 (seeB ixD) (fVar 0) (fOp2 (seeB modD) (fVar 1) (lenS (faCons (fVar 0) faNil))) [some (.d (scriptD ns)), some (.d (.int k)), a, b] n = some (.d (.int ns[k % ns.length]), n) := fun a b => cmp_ev rfl (hm a b) (sc_at hml)
      obtain ⟨q, hq⟩ : ∃ q : Nat, q = k / ns.length := ⟨_, rfl⟩
      have hdv : fOp2 (seeB fdivD) (fVar 1) (lenS (faCons (fVar 0) faNil)) [some (.d (scriptD ns)), some (.d (.int k)), some (.d (.int ns[k % ns.length])), none] n = some (.d (.int (q : Int)), n) := by
        rw [hq]
        refine cmp_ev rfl (hlen _ _) ?_
        show (if (ns.length : Int) ≠ 0 ∧ (ns.length : Int).natAbs < 1073741824 then some (PyData.int ((k : Int).fdiv ns.length)) else none) = _
        rw [if_pos ⟨by omega, by omega⟩, Int.fdiv_eq_ediv_of_nonneg _ (Int.natCast_nonneg _), ← Int.natCast_ediv]
      have hit : ∃ xs, itRng1 (faCons (fBi minAG (faCons (fOp2 (seeB fdivD) (fVar 1) (lenS (faCons (fVar 0) faNil))) (faCons (fC (.int 60)) faNil))) faNil) [some (.d (scriptD ns)), some (.d (.int k)), some (.d (.int ns[k % ns.length])), none] n = some (xs, n) ∧ xs.length ≤ big := by
        refine ⟨intsUp 0 (if (60 : Int) < (q : Int) then (60 : Int) else (q : Int)).toNat, ?_, ?_⟩
        · have hs : smallI (if (60 : Int) < (q : Int) then (60 : Int) else (q : Int)) = true := by
            unfold smallI
            split <;> rw [decide_eq_true (by omega), decide_eq_true (by omega)] <;> rfl
          have h60 : ∀ e : Ev, fC (.int 60) e n = some (.d (.int 60), n) := fun _ => rfl
          simp [itRng1, faCons, fBi, hdv, h60, faNil, Sv.arg, minAG, min2G, hs]
        · unfold intsUp
          rw [List.length_map, List.length_range]
          have : (big : Int) = 100000 := rfl
          split <;> omega
      obtain ⟨xs, hit, hxs⟩ := hit
      obtain ⟨s', hl⟩ := cell_loop (.d (scriptD ns)) (.d (.int k)) n xs ns[k % ns.length]
      refine ⟨ns[k % ns.length] * 31 + k + s' * 101, run_g rfl (g_seq_if hlt (fun z => absurd (of_decide_eq_true z) (by omega)) (fun _ => g_nx (g_seq_if heq (fun z => ?_) (fun _ => g_nx (g_set (hix none none) rfl ?_)))))⟩
      · rw [List.isEmpty_iff.mp z] at h0
        exact absurd rfl h0
      · have hfin : Gives (sFrz [2] (sRet (fOp2 addL (fOp2 addL (fOp2 (seeB mulD) (fOp2 (seeB ixD) (fVar 0) (fOp2 (seeB modD) (fVar 1) (lenS (faCons (fVar 0) faNil)))) (fC (.int 31))) (fVar 1)) (fOp2 (seeB mulD) (fVar 2) (fC (.int 101)))))) [some (.d (scriptD ns)), some (.d (.int k)), some (.d (.int s')), none] n (.d (.int (ns[k % ns.length] * 31 + k + s' * 101))) n :=
          g_frz (g_ret (add_ev (add_ev (mul_ev (hix _ _) rfl (by decide)) rfl) (mul_ev rfl rfl (by decide))))
        obtain ⟨e', hfin⟩ := hfin
        refine ⟨e', ?_⟩
        show sSeq (sFor _ _ _ _) _ [some (.d (scriptD ns)), some (.d (.int k)), some (.d (.int ns[k % ns.length])), none] n = _
        simp only [sSeq, sFor, hit, if_pos hxs, hl]
        exact hfin
theorem mod_in {a : Int} {m : Nat} (h : 0 < m) : ∃ i : Nat, i < m ∧ modD (.int a) (.int (m : Int)) = some (.int (i : Int)) := by
  refine ⟨(a.fmod m).toNat, ?_, ?_⟩
  · have h1 := Int.fmod_nonneg_of_pos a (show (0 : Int) < m by omega)
    have h2 := Int.fmod_lt_of_pos a (show (0 : Int) < m by omega)
    omega
  · have h1 := Int.fmod_nonneg_of_pos a (show (0 : Int) < m by omega)
    show (if (m : Int) ≠ 0 then some (PyData.int (a.fmod m)) else none) = _
    rw [if_pos (by omega), Int.toNat_of_nonneg h1]
theorem m_mixed (ns : List Int) (hn : ns.length ≤ 63) (k n many : Nat) (hk : k ≤ 100000) (hm : 0 < many) : ∃ i : Nat, i < many ∧ F_mixed [.d (scriptD ns), .d (.int k), .d (.int many)] n = some (.d (.int i), n) := by
  obtain ⟨c, hc⟩ := m_cell ns hn k n
  obtain ⟨s, hs, es⟩ := mod_in (a := c * 1103515245 + 7919 * k + 12345) (m := 2147483647) (by omega)
  obtain ⟨i1, h1, e1⟩ := mod_in (a := (s : Int) ^ 5) (m := 2147483647) (by omega)
  obtain ⟨i2, h2, e2⟩ := mod_in (a := (i1 : Int)) (m := 999983) (by omega)
  obtain ⟨i3, h3, e3⟩ := mod_in (a := (i2 : Int)) (m := many) hm
  have hp : powD (.int (s : Int)) (.int 5) = some (.int ((s : Int) ^ 5)) := by
    show (if (0 : Int) ≤ 5 ∧ (5 : Int) ≤ 1000000 ∧ (s : Int).natAbs < 2 ^ 64 then some (PyData.int ((s : Int) ^ 5)) else none) = _
    rw [if_pos ⟨by omega, by omega, by omega⟩]
  refine ⟨i3, h3, run_g rfl (g_set (sv := .d (.int s)) (n1 := n) ?_ rfl (g_frz (g_ret ?_)))⟩
  · exact cmp_ev (add_ev (add_ev (mul_ev (call_ev (as := [.d (scriptD ns), .d (.int k)]) rfl rfl hc) rfl (by decide)) (mul_ev (a := 7919) (b := (k : Int)) rfl rfl (by omega))) rfl) rfl es
  · exact cmp_ev (cmp_ev (cmp_ev (cmp_ev (a := .int s) rfl rfl hp) rfl e1) rfl e2) rfl e3
theorem m_draw (ns : List Int) (hn : ns.length ≤ 63) (n many : Nat) (hk : n < 100000) (hm : 0 < many) : ∃ i : Nat, i < many ∧ F_draw [.d (scriptD ns), .st, .d (.int many)] n = some (.d (.int i), n + 1) := by
  obtain ⟨i, hi, e⟩ := m_mixed ns hn (n + 1) (n + 1) many (by omega) hm
  refine ⟨i, hi, run_g rfl ?_⟩
  have hg : Gives (sRet (fCall 3 F_mixed (faCons (fVar 0) (faCons (lenS (faCons (fVar 1) faNil)) (faCons (fVar 2) faNil))))) [some (.d (scriptD ns)), some .st, some (.d (.int many))] (n + 1) (.d (.int i)) (n + 1) := g_ret (call_ev (as := [.d (scriptD ns), .d (.int ((n + 1 : Nat) : Int)), .d (.int many)]) rfl rfl e)
  obtain ⟨e', hg⟩ := hg
  refine ⟨e', ?_⟩
  have hd : sDraw 1 [some (.d (scriptD ns)), some .st, some (.d (.int many))] n = some (.nx, [some (.d (scriptD ns)), some .st, some (.d (.int many))], n + 1) := by
    show (if n < big then some (Fl.nx, [some (Sv.d (scriptD ns)), some Sv.st, some (Sv.d (.int many))], n + 1) else none) = _
    rw [if_pos (show n < big from hk)]
  show sSeq (sDraw 1) _ [some (.d (scriptD ns)), some .st, some (.d (.int many))] n = _
  simp only [sSeq, hd]
  exact hg
theorem m_pick (ns : List Int) (hn : ns.length ≤ 63) (n : Nat) (hk : n < 100000) {ds : List PyData} (hd : ds ≠ []) : ∃ x ∈ ds, F_pick [.d (scriptD ns), .st, .d (.tuple ds)] n = some (.d x, n + 1) := by
  obtain ⟨i, hi, e⟩ := m_draw ns hn n ds.length hk (List.length_pos_iff.mpr hd)
  refine ⟨ds[i], List.getElem_mem hi, run_g rfl (g_ret (cmp_ev (a := .tuple ds) (b := .int i) rfl (call_ev (as := [.d (scriptD ns), .st, .d (.int ds.length)]) rfl rfl e) (int_ix (.inl rfl) (List.getElem?_eq_getElem hi))))⟩
theorem tup_ev {f : FE} {e n n1 xs} (h : f e n = some (.cell xs, n1) ∨ f e n = some (.d (.list xs), n1)) : fBi (see1 tupG) (faCons f faNil) e n = some (.d (.tuple xs), n1) := by
  rcases h with h | h <;> simp [fBi, faCons, h, faNil, Sv.arg, see1, Sv.see, tupG]
theorem erase_perm {α : Type} : ∀ {l : List α} {i : Nat} (h : i < l.length), (l[i] :: l.eraseIdx i).Perm l
  | x :: l, 0, _ => .refl _
  | x :: l, i + 1, h => by
    have h' : i < l.length := by rw [List.length_cons] at h; omega
    rw [List.getElem_cons_succ, List.eraseIdx_cons_succ]
    exact (List.Perm.swap x l[i] (l.eraseIdx i)).trans ((erase_perm h').cons x)
/-! some of a list -/
theorem sortOk_sub {xs ys : List PyData} (h : sortOk xs = true) (hs : ∀ y ∈ ys, y ∈ xs) (hl : ys.length ≤ xs.length) : sortOk ys = true := by
  unfold sortOk at h ⊢
  simp only [Bool.and_eq_true, List.all_eq_true, Bool.or_eq_true, decide_eq_true_eq] at h ⊢
  obtain ⟨⟨⟨h1, h2⟩, h3⟩, h4⟩ := h
  refine ⟨⟨⟨fun a ha b hb => h1 a (hs a ha) b (hs b hb), ?_⟩, fun a ha => h3 a (hs a ha)⟩, by omega⟩
  rcases h2 with h2 | h2
  · exact .inl fun a ha => h2 a (hs a ha)
  · exact .inr fun a ha => h2 a (hs a ha)
theorem some_loop (ns : List Int) (hn : ns.length ≤ 63) (a : Sv) (c : Nat) (xs : List PyData) (hsh : ∀ ys : List PyData, (∀ y ∈ ys, y ∈ xs) → SeqAt.shaped (.list ys) = true) (hx : xs.length ≤ 1000) : ∀ (f n : Nat) (left found : List PyData), left.length < f → n + left.length < 100000 → (left ++ found).Perm xs → found.length ≤ c → 
    ∃ left' found' n', whL (tAndF (bT (fOp2 (seeB (eqD true)) (fVar 4) (fLst faNil))) (bT (fOp2 (seeB (ordD .Lt)) (lenS (faCons (fVar 5) faNil)) (fVar 3)))) [] (sAppPop 5 4 (fCall 3 F_draw (faCons (fVar 0) (faCons (fVar 1) (faCons (lenS (faCons (fVar 4) faNil)) faNil))))) f [some (.d (scriptD ns)), some .st, some a, some (.d (.int c)), some (.cell left), some (.cell found)] n = some (.nx, [some (.d (scriptD ns)), some .st, some a, some (.d (.int c)), some (.cell left'), some (.cell found')], n') ∧ n ≤ n' ∧ n' ≤ n + left.length ∧ (left' ++ found').Perm xs ∧ found'.length ≤ c ∧ (left' = [] ∨ found'.length = c)
  | 0, n, left, found, hf, _, _, _ => absurd hf (by omega)
  | f + 1, n, left, found, hf, hb, hp, hc => by
    have hl : left.length + found.length = xs.length := by rw [← List.length_append]; exact hp.length_eq
    have hbig : (big : Int) = 100000 := rfl
    have h1 : bT (fOp2 (seeB (eqD true)) (fVar 4) (fLst faNil)) [some (.d (scriptD ns)), some .st, some a, some (.d (.int c)), some (.cell left), some (.cell found)] n = some (!left.isEmpty, n) := by
      refine (bt (cmp_see (a := .list left) (b := .list []) rfl rfl rfl rfl (eq_nil true (hsh left fun y hy => hp.mem_iff.mp (List.mem_append_left _ hy))))).trans ?_
      rw [Bool.bne_true]
    have h2 : bT (fOp2 (seeB (ordD .Lt)) (lenS (faCons (fVar 5) faNil)) (fVar 3)) [some (.d (scriptD ns)), some .st, some a, some (.d (.int c)), some (.cell left), some (.cell found)] n = some (decide ((found.length : Int) < c), n) := bt (cmp_ev (a := .int found.length) (b := .int c) rfl rfl (ordLt_int _ _))
    have ht := and_t (g := bT (fOp2 (seeB (ordD .Lt)) (lenS (faCons (fVar 5) faNil)) (fVar 3))) h1
    rw [h2] at ht
    cases left with
    | nil => exact ⟨[], found, n, by simp only [whL, ht]; rfl, by omega, by omega, hp, hc, .inl rfl⟩
    | cons y r =>
      by_cases hcc : found.length < c
      · obtain ⟨i, hi, e⟩ := m_draw ns hn n (y :: r).length (by omega) (by rw [List.length_cons]; omega)
        have hcall : fCall 3 F_draw (faCons (fVar 0) (faCons (fVar 1) (faCons (lenS (faCons (fVar 4) faNil)) faNil))) [some (.d (scriptD ns)), some .st, some a, some (.d (.int c)), some (.cell (y :: r)), some (.cell found)] n = some (.d (.int i), n + 1) := call_ev (as := [.d (scriptD ns), .st, .d (.int (y :: r).length)]) rfl rfl e
        have hsi : seqIndex? (i : Int) (y :: r).length = some i := by
          rw [List.length_cons] at hi
          unfold seqIndex?
          simp [show ¬ ((i : Int) < 0) by omega]
          omega
        have hpp : ((y :: r).eraseIdx i ++ (found ++ [(y :: r)[i]])).Perm xs := by
          refine List.Perm.trans ?_ hp
          rw [← List.append_assoc]
          refine (List.perm_append_singleton _ _).trans ?_
          rw [← List.cons_append]
          exact List.Perm.append_right _ (erase_perm hi)
        have hel : ((y :: r).eraseIdx i).length = (y :: r).length - 1 := List.length_eraseIdx_of_lt hi
        have hsm : smallI (i : Int) = true := by
          unfold smallI
          rw [decide_eq_true (by omega), decide_eq_true (by omega)]
          rfl
        have hbody : sAppPop 5 4 (fCall 3 F_draw (faCons (fVar 0) (faCons (fVar 1) (faCons (lenS (faCons (fVar 4) faNil)) faNil)))) [some (.d (scriptD ns)), some .st, some a, some (.d (.int c)), some (.cell (y :: r)), some (.cell found)] n = some (.nx, [some (.d (scriptD ns)), some .st, some a, some (.d (.int c)), some (.cell ((y :: r).eraseIdx i)), some (.cell (found ++ [(y :: r)[i]]))], n + 1) := by
          unfold sAppPop
          rw [hcall]
          show (match seqIndex? (i : Int) (y :: r).length with
            | some k => (match (y :: r)[k]? with
              | some y' => if 5 ≠ 4 ∧ found.length < big ∧ smallI (i : Int) = true then _ else none
              | none => none)
            | none => none) = _
          rw [hsi]
          dsimp only
          rw [List.getElem?_eq_getElem hi]
          dsimp only
          rw [if_pos ⟨by omega, by omega, hsm⟩]
          rfl
        obtain ⟨l', f', n', q1, q2, q3, q4, q5, q6⟩ := some_loop ns hn a c xs hsh hx f (n + 1) ((y :: r).eraseIdx i) (found ++ [(y :: r)[i]]) (by rw [hel]; omega) (by rw [hel]; rw [List.length_cons] at *; omega) hpp (by rw [List.length_append]; show _ + 1 ≤ c; omega)
        refine ⟨l', f', n', ?_, by omega, by rw [hel] at q3; rw [List.length_cons] at *; omega, q4, q5, q6⟩
        rw [← q1]
        have ht' : tAndF (bT (fOp2 (seeB (eqD true)) (fVar 4) (fLst faNil))) (bT (fOp2 (seeB (ordD .Lt)) (lenS (faCons (fVar 5) faNil)) (fVar 3))) [some (.d (scriptD ns)), some .st, some a, some (.d (.int c)), some (.cell (y :: r)), some (.cell found)] n = some (true, n) := by
          rw [ht, decide_eq_true (by omega)]
          rfl
        simp only [whL, ht', hbody, wipeE]
      · refine ⟨y :: r, found, n, ?_, by omega, by omega, hp, hc, .inr (by omega)⟩
        have ht' : tAndF (bT (fOp2 (seeB (eqD true)) (fVar 4) (fLst faNil))) (bT (fOp2 (seeB (ordD .Lt)) (lenS (faCons (fVar 5) faNil)) (fVar 3))) [some (.d (scriptD ns)), some .st, some a, some (.d (.int c)), some (.cell (y :: r)), some (.cell found)] n = some (false, n) := by
          rw [ht, decide_eq_false (by omega)]
          rfl
        simp only [whL, ht']
theorem m_some_of (ns : List Int) (hn : ns.length ≤ 63) (n c : Nat) (xs : List PyData) (hsh : ∀ ys : List PyData, (∀ y ∈ ys, y ∈ xs) → SeqAt.shaped (.list ys) = true) (hx : xs.length ≤ 1000) (hb : n + xs.length < 100000) (ho : sortOk xs = true) :
    ∃ zs rest n', F_some_of [.d (scriptD ns), .st, .d (.list xs), .d (.int c)] n = some (.d (.tuple (sortD zs)), n') ∧ n ≤ n' ∧ n' ≤ n + xs.length ∧ (rest ++ zs).Perm xs ∧ zs.length ≤ c ∧ (rest = [] ∨ zs.length = c) := by
  obtain ⟨l', f', n', q1, q2, q3, q4, q5, q6⟩ := some_loop ns hn (.d (.list xs)) c xs hsh hx fuel n xs [] (by show _ < 100000; omega) hb (by rw [List.append_nil]) (Nat.zero_le _)
  refine ⟨f', l', n', run_g rfl ?_, q2, q3, q4, q5, q6⟩
  have hk : sortOk f' = true := sortOk_sub ho (fun y hy => q4.mem_iff.mp (List.mem_append_right _ hy)) (by
    have := q4.length_eq
    rw [List.length_append] at this
    omega)
  have hfin : Gives (sFrz [5] (sRet (fBi (see1 tupG) (faCons (fBi (see1 sortG) (faCons (fVar 5) faNil)) faNil)))) [some (.d (scriptD ns)), some .st, some (.d (.list xs)), some (.d (.int c)), some (.cell l'), some (.cell f')] n' (.d (.tuple (sortD f'))) n' := by
    have hs : fBi (see1 sortG) (faCons (fVar 5) faNil) [some (.d (scriptD ns)), some .st, some (.d (.list xs)), some (.d (.int c)), some (.cell l'), some (.d (.list f'))] n' = some (.cell (sortD f'), n') := by
      show (match (if sortOk f' = true then some (Sv.cell (sortD f')) else none) with
        | none => none
        | some r => some (r, n')) = _
      rw [if_pos hk]
    refine g_frz (g_ret ?_)
    show fBi (see1 tupG) (faCons (fBi (see1 sortG) (faCons (fVar 5) faNil)) faNil) [some (.d (scriptD ns)), some .st, some (.d (.list xs)), some (.d (.int c)), some (.cell l'), some (.d (.list f'))] n' = _
    exact tup_ev (.inl hs)
  obtain ⟨e', hfin⟩ := hfin
  refine ⟨e', ?_⟩
  have hw : sWhile (tAndF (bT (fOp2 (seeB (eqD true)) (fVar 4) (fLst faNil))) (bT (fOp2 (seeB (ordD .Lt)) (lenS (faCons (fVar 5) faNil)) (fVar 3)))) [] (sAppPop 5 4 (fCall 3 F_draw (faCons (fVar 0) (faCons (fVar 1) (faCons (lenS (faCons (fVar 4) faNil)) faNil))))) fuel [some (.d (scriptD ns)), some .st, some (.d (.list xs)), some (.d (.int c)), some (.cell xs), some (.cell [])] n = _ := q1
  show sSeq (sWhile _ _ _ _) _ [some (.d (scriptD ns)), some .st, some (.d (.list xs)), some (.d (.int c)), some (.cell xs), some (.cell [])] n = _
  simp only [sSeq, hw]
  exact hfin
end Sb

namespace Sb
open PySem PySem.Spec PyProof.Rows L2
/-! ### the generator: things, steps, recipes -/
theorem if_ev {t : FT} {f g : FE} {e n c n1} (h : t e n = some (c, n1)) : fIf t f g e n = if c = true then f e n1 else g e n1 := by
  cases c <;> simp [fIf, h]
/-- the reading q is nowhere -/
def noQ (t : PyData) : Bool := (seqD t).all fun x => match x with
  | .str z => decide (z ≠ "q")
  | _ => true
def okT (t : PyData) : Prop := ∃ es, t = .tuple es ∧ 1 ≤ es.length ∧ es.length ≤ 3 ∧ thingD t = true ∧ smD t = true ∧ noQ t = true
def THS : List PyData := [.tuple [.str "a", .str "b"], .tuple [.str "", .str "x"], .tuple [.str "ab", .str "ba"], .tuple [.str "", .str "a", .str "aab"], .tuple [.str "c"], .tuple [.str "b", .str "ca", .str "cb"]]
def cut2 : PyData → PyData
  | .tuple xs => .tuple (cutD xs none (some 2))
  | x => x
def okTb (t : PyData) : Bool := (match t with
  | .tuple es => decide (1 ≤ es.length) && decide (es.length ≤ 3)
  | _ => false) && thingD t && smD t && noQ t
theorem okT_of {t : PyData} (h : okTb t = true) : okT t := by
  cases t with
  | tuple es =>
    unfold okTb at h
    simp only [Bool.and_eq_true, decide_eq_true_eq] at h
    exact ⟨es, rfl, h.1.1.1.1, h.1.1.1.2, h.1.1.2, h.1.2, h.2⟩
  | _ => cases h
theorem THS_ok : (THS.all fun t => okTb t && okTb (cut2 t)) = true := by decide +kernel
theorem m_some_thing (ns : List Int) (hn : ns.length ≤ 63) (n : Nat) (hb : n < 99000) : ∃ t n', F_some_thing [.d (scriptD ns), .st] n = some (.d t, n') ∧ n ≤ n' ∧ n' ≤ n + 2 ∧ okT t := by
  obtain ⟨x, hx, e⟩ := m_pick ns hn n (by omega) (ds := THS) (by unfold THS; intro h; cases h)
  obtain ⟨i, hi, e2⟩ := m_draw ns hn (n + 1) 4 (by omega) (by omega)
  have hok := List.all_eq_true.mp THS_ok x hx
  rw [Bool.and_eq_true] at hok
  have hc := bt (cmp_ev (g := ordD .Gt) (fa := fCall 3 F_draw (faCons (fVar 0) (faCons (fVar 1) (faCons (fC (.int 4)) faNil)))) (fb := fC (.int 0)) (e := [some (.d (scriptD ns)), some .st, some (.d x)]) (n := n + 1) (call_ev (as := [.d (scriptD ns), .st, .d (.int (4 : Nat))]) rfl rfl e2) rfl (ordGt_int i 0))
  obtain ⟨es, ex, _⟩ := okT_of hok.1
  have main : ∀ t : PyData, (if (0 : Int) < (i : Int) then x else cut2 x) = t → Gives b_some_thing (argsE 3 2 [.d (scriptD ns), .st]) n (.d t) (n + 2) := by
    rintro t rfl
    refine g_set (sv := .d x) (n1 := n + 1) (call_ev (as := [.d (scriptD ns), .st, .d (.tuple THS)]) rfl rfl e) rfl (g_frz (g_ret ?_))
    refine (if_ev hc).trans ?_
    by_cases h : (0 : Int) < (i : Int)
    · rw [decide_eq_true h, if_pos rfl, if_pos h]
      rfl
    · rw [decide_eq_false h, if_neg Bool.false_ne_true, if_neg h, ex]
      rfl
  refine ⟨_, n + 2, run_g rfl (main _ rfl), by omega, by omega, ?_⟩
  split
  · exact okT_of hok.1
  · exact okT_of hok.2
/-! steps -/
def goodR (m s : Nat) (r : PyData) : Prop := ∃ (w : Str) (j : Nat), r = .tuple [.str w, .int (j : Int)] ∧ ((w = "thing" ∧ j < m) ∨ (w = "step" ∧ j < s))
theorem app_ev {i : Nat} {f : FE} {e n n1 xs} {y : PyData} (h : f e n = some (.d y, n1)) (hc : cellAt e i = some xs) (hl : xs.length < big) : sApp i f e n = some (.nx, e.set i (some (.cell (xs ++ [y]))), n1) := by
  simp [sApp, h, Sv.take, hc, hl]
theorem if_st {t : FT} {a b : FS} {e n c n1} (h : t e n = some (c, n1)) : sIf t a b e n = if c = true then a e n1 else b e n1 := by
  cases c <;> simp [sIf, h]
theorem pair_ev {w : Str} {f : FE} {e n n1} {i : Int} (h : f e n = some (.d (.int i), n1)) : fTup (faCons (fC (.str w)) (faCons f faNil)) e n = some (.d (.tuple [.str w, .int i]), n1) := by
  have h0 : fC (.str w) e n = some (.d (.str w), n) := rfl
  simp [fTup, faCons, h0, h, faNil, Sv.arg, keepAll]
  decide
def stepB : FS := (sIf (tOrF (bT (fOp2 (seeB (eqD false)) (fVar 3) (fC (.int 0)))) (bT (fOp2 (seeB (ordD .Lt)) (fCall 3 F_draw (faCons (fVar 0) (faCons (fVar 1) (faCons (fC (.int 5)) faNil)))) (fC (.int 3)))))
    (sApp 6 (fTup (faCons (fC (.str "thing")) (faCons (fCall 3 F_draw (faCons (fVar 0) (faCons (fVar 1) (faCons (fVar 2) faNil)))) faNil))))
    (sApp 6 (fTup (faCons (fC (.str "step")) (faCons (fCall 3 F_draw (faCons (fVar 0) (faCons (fVar 1) (faCons (fVar 3) faNil)))) faNil)))))
theorem step_one (ns : List Int) (hn : ns.length ≤ 63) (m s : Nat) (hm : 0 < m) (a b x : Option Sv) (rs : List PyData) (n : Nat) (hb : n < 99000) (hl : rs.length ≤ 100) (hr : ∀ r ∈ rs, goodR m s r) :
    ∃ r n', stepB [some (.d (scriptD ns)), some .st, some (.d (.int m)), some (.d (.int s)), a, b, some (.cell rs), x] n = some (.nx, [some (.d (scriptD ns)), some .st, some (.d (.int m)), some (.d (.int s)), a, b, some (.cell (rs ++ [r])), x], n') ∧ n ≤ n' ∧ n' ≤ n + 2 ∧ goodR m s r := by
  have hbig : rs.length < big := by
    show rs.length < 100000
    omega
  have h1 : bT (fOp2 (seeB (eqD false)) (fVar 3) (fC (.int 0))) [some (.d (scriptD ns)), some .st, some (.d (.int m)), some (.d (.int s)), a, b, some (.cell rs), x] n = some (decide ((s : Int) = 0), n) := bt (cmp_ev (a := .int s) (b := .int 0) rfl rfl (by show some (PyData.bool (decide ((s : Int) = 0) != false)) = _; rw [Bool.bne_false]))
  have thing : ∀ n0, n0 < 99500 → ∃ r, sApp 6 (fTup (faCons (fC (.str "thing")) (faCons (fCall 3 F_draw (faCons (fVar 0) (faCons (fVar 1) (faCons (fVar 2) faNil)))) faNil))) [some (.d (scriptD ns)), some .st, some (.d (.int m)), some (.d (.int s)), a, b, some (.cell rs), x] n0 = some (.nx, [some (.d (scriptD ns)), some .st, some (.d (.int m)), some (.d (.int s)), a, b, some (.cell (rs ++ [r])), x], n0 + 1) ∧ goodR m s r := fun n0 h0 => by
    obtain ⟨i, hi, e⟩ := m_draw ns hn n0 m (by omega) hm
    exact ⟨_, app_ev (pair_ev (call_ev (as := [.d (scriptD ns), .st, .d (.int m)]) rfl rfl e)) rfl hbig, _, i, rfl, .inl ⟨rfl, hi⟩⟩
  by_cases h0 : s = 0
  · obtain ⟨r, q, g⟩ := thing n (by omega)
    refine ⟨r, n + 1, ?_, by omega, by omega, g⟩
    unfold stepB
    rw [if_st (c := true) (n1 := n) (by rw [or_t h1, decide_eq_true (by omega), if_pos rfl]), if_pos rfl]
    exact q
  · obtain ⟨i, hi, e⟩ := m_draw ns hn n 5 (by omega) (by omega)
    have h2 := bt (cmp_ev (g := ordD .Lt) (fa := fCall 3 F_draw (faCons (fVar 0) (faCons (fVar 1) (faCons (fC (.int 5)) faNil)))) (fb := fC (.int 3)) (e := [some (.d (scriptD ns)), some .st, some (.d (.int m)), some (.d (.int s)), a, b, some (.cell rs), x]) (n := n) (call_ev (as := [.d (scriptD ns), .st, .d (.int (5 : Nat))]) rfl rfl e) rfl (ordLt_int i 3))
    have ht : tOrF (bT (fOp2 (seeB (eqD false)) (fVar 3) (fC (.int 0)))) (bT (fOp2 (seeB (ordD .Lt)) (fCall 3 F_draw (faCons (fVar 0) (faCons (fVar 1) (faCons (fC (.int 5)) faNil)))) (fC (.int 3)))) [some (.d (scriptD ns)), some .st, some (.d (.int m)), some (.d (.int s)), a, b, some (.cell rs), x] n = some (decide ((i : Int) < 3), n + 1) := by
      rw [or_t h1, decide_eq_false (by omega), if_neg Bool.false_ne_true]
      exact h2
    by_cases h3 : i < 3
    · obtain ⟨r, q, g⟩ := thing (n + 1) (by omega)
      refine ⟨r, n + 2, ?_, by omega, by omega, g⟩
      unfold stepB
      rw [if_st ht, decide_eq_true (by omega), if_pos rfl]
      exact q
    · obtain ⟨j, hj, e2⟩ := m_draw ns hn (n + 1) s (by omega) (by omega)
      refine ⟨_, n + 2, ?_, by omega, by omega, "step", j, rfl, .inr ⟨rfl, hj⟩⟩
      unfold stepB
      rw [if_st ht, decide_eq_false (by omega), if_neg Bool.false_ne_true]
      exact app_ev (pair_ev (call_ev (as := [.d (scriptD ns), .st, .d (.int s)]) rfl rfl e2)) rfl hbig
theorem step_loop (ns : List Int) (hn : ns.length ≤ 63) (m s : Nat) (hm : 0 < m) (a b : Option Sv) : ∀ (xs rs : List PyData) (n : Nat), n + 2 * xs.length < 99000 → rs.length + xs.length ≤ 100 → (∀ r ∈ rs, goodR m s r) →
    ∃ rs' n', forL (tgN 7) [7] stepB xs [some (.d (scriptD ns)), some .st, some (.d (.int m)), some (.d (.int s)), a, b, some (.cell rs), none] n = some (.nx, [some (.d (scriptD ns)), some .st, some (.d (.int m)), some (.d (.int s)), a, b, some (.cell rs'), none], n') ∧ n ≤ n' ∧ n' ≤ n + 2 * xs.length ∧ rs'.length = rs.length + xs.length ∧ ∀ r ∈ rs', goodR m s r
  | [], rs, n, _, _, hr => ⟨rs, n, rfl, by omega, by omega, rfl, hr⟩
  | x :: xs, rs, n, h1, h2, hr => by
    rw [List.length_cons] at h1 h2
    obtain ⟨r, n1, q, l1, l2, g⟩ := step_one ns hn m s hm a b (some (.d x)) rs n (by omega) (by omega) hr
    obtain ⟨rs', n2, q2, l3, l4, l5, l6⟩ := step_loop ns hn m s hm a b xs (rs ++ [r]) n1 (by omega) (by rw [List.length_append]; show _ + 1 + _ ≤ _; omega) (fun y hy => by
      rcases List.mem_append.mp hy with h | h
      · exact hr y h
      · rw [List.mem_singleton.mp h]; exact g)
    refine ⟨rs', n2, ?_, by omega, by rw [List.length_cons]; omega, by rw [l5, List.length_append, List.length_singleton, List.length_cons]; omega, l6⟩
    rw [← q2]
    have ht : tgN 7 x [some (.d (scriptD ns)), some .st, some (.d (.int m)), some (.d (.int s)), a, b, some (.cell rs), none] = some [some (.d (scriptD ns)), some .st, some (.d (.int m)), some (.d (.int s)), a, b, some (.cell rs), some (.d x)] := rfl
    have hw : wipeE [some (.d (scriptD ns)), some .st, some (.d (.int m)), some (.d (.int s)), a, b, some (.cell (rs ++ [r])), some (.d x)] [7] = [some (.d (scriptD ns)), some .st, some (.d (.int m)), some (.d (.int s)), a, b, some (.cell (rs ++ [r])), none] := rfl
    simp only [forL, ht, q, hw]
def STN : List PyData := [.str "join", .str "join", .str "less", .str "same", .str "pick", .str "sort", .str "turn", .str "first", .str "rest"]
def stnOk : PyData → Bool
  | .str o => match lookM mREADINGS' o with
    | some k => decide (0 ≤ k) && decide (k ≤ 3) && decide ((match valV (mergeK [] (litKV [("join", 2), ("less", 2), ("same", 2), ("pick", 3)])) (Sum.inr o) with
        | some (.int i) => some i
        | none => some 1
        | _ => none) = some k)
    | none => false
  | _ => false
theorem STN_ok : STN.all stnOk = true := by decide +kernel
def goodS (m s : Nat) (d : PyData) : Prop := ∃ (o : Str) (rs : List PyData), d = .tuple [.str o, .tuple rs] ∧ lookM mREADINGS' o = some (rs.length : Int) ∧ rs.length ≤ 3 ∧ o.length ≤ 10 ∧ ∀ r ∈ rs, goodR m s r
theorem g_par {i j : Nat} {f g : FE} {rest : FS} {e n a n1 b n2 v n'} (h1 : f e n = some (a, n1)) (h2 : g e n1 = some (b, n2)) (ha : a.own = true) (hb : b.own = true) (k : Gives rest ((e.set i (some a)).set j (some b)) n2 v n') : Gives (sSeq (sPar i j f g) rest) e n v n' := by
  obtain ⟨e', q⟩ := k
  refine ⟨e', ?_⟩
  simp only [sSeq, sPar, h1, h2, ha, hb, and_self, if_true]
  exact q
/-- a loop that runs through -/
theorem g_run {it : FI} {tg : FG} {wp : List Nat} {body rest : FS} {e e1 : Ev} {n n1 n2 : Nat} {xs : List PyData} {v n'} (hit : it e n = some (xs, n1)) (hl : xs.length ≤ big) (h : forL tg wp body xs e n1 = some (.nx, e1, n2)) (k : Gives rest e1 n2 v n') : Gives (sSeq (sFor it tg wp body) rest) e n v n' := by
  obtain ⟨e', q⟩ := k
  exact ⟨e', by simp only [sSeq, sFor, hit, if_pos hl, h]; exact q⟩
theorem STN_len : (STN.all fun d => match d with
    | .str o => decide (o.length ≤ 10)
    | _ => false) = true := by decide +kernel
theorem m_some_step (ns : List Int) (hn : ns.length ≤ 63) (m s n : Nat) (hm : 0 < m) (hb : n < 98000) : ∃ d n', F_some_step [.d (scriptD ns), .st, .d (.int m), .d (.int s)] n = some (.d d, n') ∧ n ≤ n' ∧ n' ≤ n + 7 ∧ goodS m s d := by
  obtain ⟨x, hx, e⟩ := m_pick ns hn n (by omega) (ds := STN) (by unfold STN; intro h; cases h)
  have hok := List.all_eq_true.mp STN_ok x hx
  have hlen := List.all_eq_true.mp STN_len x hx
  cases x with
  | str o =>
    have hlen := of_decide_eq_true hlen
    cases q : lookM mREADINGS' o with
    | none =>
      unfold stnOk at hok
      simp only [q] at hok
      cases hok
    | some k =>
      unfold stnOk at hok
      simp only [q, Bool.and_eq_true, decide_eq_true_eq] at hok
      obtain ⟨⟨k0, k3⟩, hv⟩ := hok
      have hk : k = ((k.toNat : Nat) : Int) := by omega
      have hup : (intsUp 0 k.toNat).length = k.toNat := by unfold intsUp; rw [List.length_map, List.length_range]
      obtain ⟨rs, n', q2, l1, l2, l3, l4⟩ := step_loop ns hn m s hm (some (.d (.tuple STN))) (some (.d (.str o))) (intsUp 0 k.toNat) [] (n + 1) (by rw [hup]; omega) (by rw [hup]; show 0 + _ ≤ _; omega) (fun r hr => by cases hr)
      rw [hup] at l2 l3
      have l3 : rs.length = k.toNat := by
        rw [l3]
        exact Nat.zero_add _
      have hg : fGetLit [("join", 2), ("less", 2), ("same", 2), ("pick", 3)] (fVar 5) (fC (.int 1)) [some (.d (scriptD ns)), some .st, some (.d (.int m)), some (.d (.int s)), some (.d (.tuple STN)), some (.d (.str o)), some (.cell []), none] (n + 1) = some (.d (.int k), n + 1) := by
        show (match valV (mergeK [] (litKV [("join", 2), ("less", 2), ("same", 2), ("pick", 3)])) (Sum.inr o) with
          | some (.int i) => some (Sv.d (.int i), n + 1)
          | none => some (Sv.d (.int 1), n + 1)
          | _ => none) = _
        revert hv
        cases valV (mergeK [] (litKV [("join", 2), ("less", 2), ("same", 2), ("pick", 3)])) (Sum.inr o) with
        | none => intro hv; injection hv with hv; rw [← hv]
        | some y =>
          cases y with
          | int i => intro hv; injection hv with hv; rw [← hv]
          | _ => intro hv; cases hv
      have hs : smallI k = true := by
        unfold smallI
        rw [decide_eq_true (by omega), decide_eq_true (by omega)]
        rfl
      have hit : itRng1 (faCons (fGetLit [("join", 2), ("less", 2), ("same", 2), ("pick", 3)] (fVar 5) (fC (.int 1))) faNil) [some (.d (scriptD ns)), some .st, some (.d (.int m)), some (.d (.int s)), some (.d (.tuple STN)), some (.d (.str o)), some (.cell []), none] (n + 1) = some (intsUp 0 k.toNat, n + 1) := by
        simp [itRng1, faCons, hg, faNil, Sv.arg, hs]
      refine ⟨.tuple [.str o, .tuple rs], n', run_g rfl ?_, by omega, by omega, o, rs, rfl, by rw [q, l3, ← hk], by omega, hlen, l4⟩
      refine g_set (sv := .d (.tuple STN)) (n1 := n) rfl rfl (g_par (a := .d (.str o)) (b := .cell []) (call_ev (as := [.d (scriptD ns), .st, .d (.tuple STN)]) rfl rfl e) rfl rfl rfl (g_run hit (by rw [hup]; show _ ≤ 100000; omega) q2 (g_frz (g_ret rfl))))
  | _ => cases hok
/-! recipes -/
theorem lc_things (ns : List Int) (hn : ns.length ≤ 63) (e : Ev) (h0 : e[0]? = some (some (.d (scriptD ns)))) (h1 : e[1]? = some (some .st)) : ∀ (xs : List PyData) (n : Nat), n + 2 * xs.length < 99000 →
    ∃ ts n', lcL (tgN 2) [2] tT (fCall 2 F_some_thing (faCons (fVar 0) (faCons (fVar 1) faNil))) xs e n = some (ts, n') ∧ n ≤ n' ∧ n' ≤ n + 2 * xs.length ∧ ts.length = xs.length ∧ ∀ t ∈ ts, okT t
  | [], n, _ => ⟨[], n, rfl, by omega, by omega, rfl, fun t h => by cases h⟩
  | x :: xs, n, hb => by
    rw [List.length_cons] at hb
    obtain ⟨t, n1, q, l1, l2, g⟩ := m_some_thing ns hn n (by omega)
    obtain ⟨ts, n2, q2, l3, l4, l5, l6⟩ := lc_things ns hn e h0 h1 xs n1 (by omega)
    refine ⟨t :: ts, n2, ?_, by omega, by rw [List.length_cons]; omega, by rw [List.length_cons, List.length_cons, l5], fun y hy => by
      rcases List.mem_cons.mp hy with h | h
      · rw [h]; exact g
      · exact l6 y h⟩
    have a0 : fVar 0 ((wipeE e [2]).set 2 (some (.d x))) n = some (.d (scriptD ns), n) := by
      unfold fVar
      rw [wipeE, wipeE, List.getElem?_set_ne (by decide), List.getElem?_set_ne (by decide), h0]
    have a1 : fVar 1 ((wipeE e [2]).set 2 (some (.d x))) n = some (.st, n) := by
      unfold fVar
      rw [wipeE, wipeE, List.getElem?_set_ne (by decide), List.getElem?_set_ne (by decide), h1]
    have hc : fCall 2 F_some_thing (faCons (fVar 0) (faCons (fVar 1) faNil)) ((wipeE e [2]).set 2 (some (.d x))) n = some (.d t, n1) := call_ev (as := [.d (scriptD ns), .st]) (by simp [faCons, a0, a1, faNil, Sv.arg]) rfl q
    simp only [lcL, tgN, tT, hc, Sv.take, q2]
theorem steps_loop (ns : List Int) (hn : ns.length ≤ 63) (a : List PyData) (b : Option Sv) (ha : 0 < a.length) : ∀ (xs ss : List PyData) (n : Nat), n + 7 * xs.length < 98000 → ss.length + xs.length ≤ 100 → (∀ (j : Nat) (d : PyData), ss[j]? = some d → goodS a.length j d) →
    ∃ ss' n', forL (tgN 2) [2] (sApp 4 (fCall 4 F_some_step (faCons (fVar 0) (faCons (fVar 1) (faCons (lenS (faCons (fVar 3) faNil)) (faCons (lenS (faCons (fVar 4) faNil)) faNil)))))) xs [some (.d (scriptD ns)), some .st, none, some (.d (.tuple a)), some (.cell ss), b] n = some (.nx, [some (.d (scriptD ns)), some .st, none, some (.d (.tuple a)), some (.cell ss'), b], n') ∧ n ≤ n' ∧ n' ≤ n + 7 * xs.length ∧ ss'.length = ss.length + xs.length ∧ ∀ (j : Nat) (d : PyData), ss'[j]? = some d → goodS a.length j d
  | [], ss, n, _, _, hr => ⟨ss, n, rfl, by omega, by omega, rfl, hr⟩
  | x :: xs, ss, n, h1, h2, hr => by
    rw [List.length_cons] at h1 h2
    obtain ⟨d, n1, q, l1, l2, g⟩ := m_some_step ns hn a.length ss.length n ha (by omega)
    obtain ⟨ss', n2, q2, l3, l4, l5, l6⟩ := steps_loop ns hn a b ha xs (ss ++ [d]) n1 (by omega) (by rw [List.length_append, List.length_singleton]; omega) (fun j y hy => by
      by_cases hj : j < ss.length
      · rw [List.getElem?_append_left hj] at hy
        exact hr j y hy
      · rw [List.getElem?_append_right (by omega)] at hy
        have hl := (List.getElem?_eq_some_iff.mp hy).1
        rw [List.length_singleton] at hl
        have hj0 : j - ss.length = 0 := by omega
        rw [hj0] at hy
        injection hy with hy
        have : j = ss.length := by omega
        rw [← hy, this]
        exact g)
    refine ⟨ss', n2, ?_, by omega, by rw [List.length_cons]; omega, by rw [l5, List.length_append, List.length_singleton, List.length_cons]; omega, l6⟩
    rw [← q2]
    have hbig : ss.length < big := by
      show ss.length < 100000
      omega
    have ht : tgN 2 x [some (.d (scriptD ns)), some .st, none, some (.d (.tuple a)), some (.cell ss), b] = some [some (.d (scriptD ns)), some .st, some (.d x), some (.d (.tuple a)), some (.cell ss), b] := rfl
    have hq : sApp 4 (fCall 4 F_some_step (faCons (fVar 0) (faCons (fVar 1) (faCons (lenS (faCons (fVar 3) faNil)) (faCons (lenS (faCons (fVar 4) faNil)) faNil))))) [some (.d (scriptD ns)), some .st, some (.d x), some (.d (.tuple a)), some (.cell ss), b] n = some (.nx, [some (.d (scriptD ns)), some .st, some (.d x), some (.d (.tuple a)), some (.cell (ss ++ [d])), b], n1) := app_ev (call_ev (as := [.d (scriptD ns), .st, .d (.int a.length), .d (.int ss.length)]) rfl rfl q) rfl hbig
    have hw : wipeE [some (.d (scriptD ns)), some .st, some (.d x), some (.d (.tuple a)), some (.cell (ss ++ [d])), b] [2] = [some (.d (scriptD ns)), some .st, none, some (.d (.tuple a)), some (.cell (ss ++ [d])), b] := rfl
    simp only [forL, ht, hq, hw]
theorem ints_of {k : Nat} : ∀ ys : List PyData, (∀ y ∈ ys, y ∈ intsUp 0 k) → ∃ js : List Nat, ys = js.map (fun (j : Nat) => PyData.int (j : Int)) ∧ ∀ j ∈ js, j < k
  | [], _ => ⟨[], rfl, fun j h => by cases h⟩
  | y :: ys, h => by
    obtain ⟨js, e, hj⟩ := ints_of ys fun z hz => h z (List.mem_cons_of_mem _ hz)
    have hy := h y List.mem_cons_self
    unfold intsUp at hy
    obtain ⟨i, hi, rfl⟩ := List.mem_map.mp hy
    refine ⟨i :: js, ?_, fun j hj' => ?_⟩
    · rw [List.map_cons, ← e]
      congr 2
      omega
    · rcases List.mem_cons.mp hj' with g | g
      · rw [g]; exact List.mem_range.mp hi
      · exact hj j g
theorem shaped_nats (js : List Nat) : SeqAt.shaped (.list (js.map (fun (j : Nat) => PyData.int (j : Int)))) = true := by
  have := shaped_ints (js.map fun (j : Nat) => (j : Int))
  rw [List.map_map] at this
  exact this
theorem sortOk_ints {k : Nat} (hk : k ≤ 1000) : sortOk (intsUp 0 k) = true := by
  unfold sortOk
  have hi : ∀ d ∈ intsUp 0 k, ∃ i : Int, d = .int i := fun d hd => by
    unfold intsUp at hd
    obtain ⟨i, hi, rfl⟩ := List.mem_map.mp hd
    exact ⟨_, rfl⟩
  have hl : (intsUp 0 k).length ≤ big := by
    unfold intsUp
    rw [List.length_map, List.length_range]
    show k ≤ 100000
    omega
  simp only [Bool.and_eq_true, List.all_eq_true, Bool.or_eq_true, decide_eq_true_eq]
  refine ⟨⟨⟨fun a ha b hb => ?_, .inr fun a ha => ?_⟩, fun a ha => ?_⟩, hl⟩
  · obtain ⟨i, rfl⟩ := hi a ha
    obtain ⟨j, rfl⟩ := hi b hb
    rfl
  · obtain ⟨i, rfl⟩ := hi a ha
    rfl
  · obtain ⟨i, rfl⟩ := hi a ha
    rw [PyData.depth]
    omega
structure RecOk (r : PyData) (ts ss ms : List PyData) : Prop where
  eq : r = .tuple [.tuple ts, .tuple ss, .tuple ms]
  t1 : 1 ≤ ts.length
  t3 : ts.length ≤ 3
  th : ∀ t ∈ ts, okT t
  s1 : 1 ≤ ss.length
  s5 : ss.length ≤ 5
  st : ∀ (j : Nat) (d : PyData), ss[j]? = some d → goodS ts.length j d
  md : ms = [.int ((ss.length - 1 : Nat) : Int)] ∨ ∃ j : Nat, j < ss.length - 1 ∧ ms = [.int (j : Int), .int ((ss.length - 1 : Nat) : Int)]
theorem m_some_recipe (ns : List Int) (hn : ns.length ≤ 63) (n : Nat) (hb : n < 90000) : ∃ r n' ts ss ms, F_some_recipe [.d (scriptD ns), .st] n = some (.d r, n') ∧ n ≤ n' ∧ n' ≤ n + 100 ∧ RecOk r ts ss ms := by
  have upl : ∀ k, (intsUp 0 k).length = k := fun k => by unfold intsUp; rw [List.length_map, List.length_range]
  have sm : ∀ k : Nat, k < 100 → smallI (k : Int) = true := fun k hk => by
    unfold smallI
    rw [decide_eq_true (by omega), decide_eq_true (by omega)]
    rfl
  have it1 : ∀ (e : Ev) (f : FE) (n n1 : Nat) (i : Nat), i < 99 → f e n = some (.d (.int i), n1) → itRng1 (faCons (fOp2 addL (fC (.int 1)) f) faNil) e n = some (intsUp 0 (1 + i), n1) := fun e f n n1 i hi h => by
    have h0 : fC (.int 1) e n = some (.d (.int 1), n) := rfl
    have h1 : fOp2 addL (fC (.int 1)) f e n = some (.d (.int ((1 + i : Nat) : Int)), n1) := add_ev h0 h
    simp only [itRng1, faCons, h1, faNil, Sv.arg]
    rw [if_pos (sm (1 + i) (by omega)), Int.toNat_natCast]
  obtain ⟨i, hi, e1⟩ := m_draw ns hn n 3 (by omega) (by omega)
  have c1 : ∀ e : Ev, e[0]? = some (some (.d (scriptD ns))) → e[1]? = some (some .st) → fCall 3 F_draw (faCons (fVar 0) (faCons (fVar 1) (faCons (fC (.int 3)) faNil))) e n = some (.d (.int i), n + 1) := fun e h0 h1 => call_ev (as := [.d (scriptD ns), .st, .d (.int (3 : Nat))]) (by
    have a0 : fVar 0 e n = some (.d (scriptD ns), n) := by unfold fVar; rw [h0]
    have a1 : fVar 1 e n = some (.st, n) := by unfold fVar; rw [h1]
    have a2 : fC (.int 3) e n = some (.d (.int (3 : Nat)), n) := rfl
    simp only [faCons, a0, a1, a2, faNil, Sv.arg]) rfl e1
  obtain ⟨ts, n2, q2, l1, l2, l3, l4⟩ := lc_things ns hn [some (.d (scriptD ns)), some .st, none, none, none, none] rfl rfl (intsUp 0 (1 + i)) (n + 1) (by rw [upl]; omega)
  rw [upl] at l2 l3
  obtain ⟨k, hk, e3⟩ := m_draw ns hn n2 5 (by omega) (by omega)
  obtain ⟨ss, n4, q4, l5, l6, l7, l8⟩ := steps_loop ns hn ts none (by omega) (intsUp 0 (1 + k)) [] (n2 + 1) (by rw [upl]; omega) (by rw [upl]; show 0 + _ ≤ _; omega) (fun j d h => by cases h)
  rw [upl] at l6 l7
  have l7 : ss.length = 1 + k := by
    rw [l7]
    exact Nat.zero_add _
  obtain ⟨c, hc, e5⟩ := m_draw ns hn n4 2 (by omega) (by omega)
  obtain ⟨zs, rest, n6, q6, l9, l10, pm, zl, _⟩ := m_some_of ns hn (n4 + 1) c (intsUp 0 ss.length) (fun ys hy => by
    obtain ⟨js, e, _⟩ := ints_of ys hy
    rw [e]
    exact shaped_nats js) (by rw [upl]; omega) (by rw [upl]; omega) (sortOk_ints (by omega))
  rw [upl] at l10
  have hlist : lenS (faCons (fVar 4) faNil) [some (.d (scriptD ns)), some .st, none, some (.d (.tuple ts)), some (.cell ss), none] n4 = some (.d (.int ss.length), n4) := rfl
  have hrg : fListRg (lenS (faCons (fVar 4) faNil)) [some (.d (scriptD ns)), some .st, none, some (.d (.tuple ts)), some (.cell ss), none] n4 = some (.cell (intsUp 0 ss.length), n4) := by
    show (if 0 ≤ (ss.length : Int) ∧ (ss.length : Int) ≤ (big : Int) then some (Sv.cell (intsUp 0 ((ss.length : Int)).toNat), n4) else none) = _
    have : (big : Int) = 100000 := rfl
    rw [if_pos ⟨by omega, by omega⟩, Int.toNat_natCast]
  have zmem : ∀ y ∈ zs, y ∈ intsUp 0 ss.length := fun y hy => pm.mem_iff.mp (List.mem_append_right _ hy)
  obtain ⟨js, ez, hjs⟩ := ints_of zs zmem
  have hz : sortD zs = zs := by
    match zs, zl with
    | [], _ => simp [sortD]
    | [z], _ => simp [sortD]
    | _ :: _ :: _, h => exact absurd h (by show ¬ (_ + 1 + 1 ≤ c); omega)
  have last : ∃ ms, (ms = [.int ((ss.length - 1 : Nat) : Int)] ∨ ∃ j : Nat, j < ss.length - 1 ∧ ms = [PyData.int (j : Int), .int ((ss.length - 1 : Nat) : Int)]) ∧ ∃ is, intsD (zs ++ [.int ((ss.length : Int) - 1)]) = some is ∧ is.length < 64 ∧ (sortI is).map PyData.int = ms := by
    have eL : (ss.length : Int) - 1 = ((ss.length - 1 : Nat) : Int) := by omega
    rw [eL]
    match js, ez, hjs with
    | [], ez, _ =>
      subst ez
      exact ⟨_, .inl rfl, [((ss.length - 1 : Nat) : Int)], rfl, by simp, by rw [← sortI_eq (ms := [((ss.length - 1 : Nat) : Int)]) (by simp) (by simp)]; rfl⟩
    | [j], ez, hj =>
      subst ez
      have hj := hj j List.mem_cons_self
      by_cases hjl : j = ss.length - 1
      · refine ⟨_, .inl rfl, [(j : Int), ((ss.length - 1 : Nat) : Int)], rfl, by simp, ?_⟩
        rw [← sortI_eq (ms := [((ss.length - 1 : Nat) : Int)]) (by simp) (by intro q; rw [hjl]; simp)]
        rfl
      · refine ⟨_, .inr ⟨j, by omega, rfl⟩, [(j : Int), ((ss.length - 1 : Nat) : Int)], rfl, by simp, ?_⟩
        rw [← sortI_eq (ms := [(j : Int), ((ss.length - 1 : Nat) : Int)]) (by simp; omega) (by intro q; rfl)]
        rfl
    | a :: b :: r, ez, _ =>
      exfalso
      rw [ez, List.length_map] at zl
      exact absurd zl (by show ¬ (_ + 1 + 1 ≤ c); omega)
  obtain ⟨ms, hms, is, hi1, hi2, hi3⟩ := last
  refine ⟨.tuple [.tuple ts, .tuple ss, .tuple ms], n6, ts, ss, ms, run_g rfl ?_, by omega, by omega, rfl, by omega, by omega, l4, by omega, by omega, l8, hms⟩
  refine g_set (sv := .d (.tuple ts)) (n1 := n2) ?_ rfl (g_set (sv := .cell []) (n1 := n2) rfl rfl (g_run (n1 := n2 + 1) (xs := intsUp 0 (1 + k)) ?_ (by rw [upl]; show _ ≤ 100000; omega) q4 (g_set (sv := .d (.tuple zs)) (n1 := n6) ?_ rfl (g_frz (g_ret ?_)))))
  · refine tup_ev (.inl ?_)
    show fLc _ _ _ _ _ [some (.d (scriptD ns)), some .st, none, none, none, none] n = _
    have h0 := it1 [some (.d (scriptD ns)), some .st, none, none, none, none] _ n (n + 1) i (by omega) (c1 [some (.d (scriptD ns)), some .st, none, none, none, none] rfl rfl)
    simp only [fLc, h0, q2]
    rw [if_pos (by rw [upl]; show _ ≤ 100000; omega)]
  · exact it1 _ _ n2 (n2 + 1) k (by omega) (call_ev (as := [.d (scriptD ns), .st, .d (.int (5 : Nat))]) rfl rfl e3)
  · rw [← hz]
    refine call_ev (as := [.d (scriptD ns), .st, .d (.list (intsUp 0 ss.length)), .d (.int c)]) ?_ rfl q6
    have hcall : fCall 3 F_draw (faCons (fVar 0) (faCons (fVar 1) (faCons (fC (.int 2)) faNil))) [some (.d (scriptD ns)), some .st, none, some (.d (.tuple ts)), some (.cell ss), none] n4 = some (.d (.int c), n4 + 1) := call_ev (as := [.d (scriptD ns), .st, .d (.int (2 : Nat))]) rfl rfl e5
    have a0 : fVar 0 [some (.d (scriptD ns)), some .st, none, some (.d (.tuple ts)), some (.cell ss), none] n4 = some (.d (scriptD ns), n4) := rfl
    have a1 : fVar 1 [some (.d (scriptD ns)), some .st, none, some (.d (.tuple ts)), some (.cell ss), none] n4 = some (.st, n4) := rfl
    show faCons _ _ [some (.d (scriptD ns)), some .st, none, some (.d (.tuple ts)), some (.cell ss), none] n4 = _
    simp only [faCons, a0, a1, hrg, hcall, faNil, Sv.arg]
  · have hs : fSortI (faCons (fOp2 addL (fVar 5) (fTup (faCons (fOp2 (seeB subD) (lenS (faCons (fVar 4) faNil)) (fC (.int 1))) faNil))) faNil) [some (.d (scriptD ns)), some .st, none, some (.d (.tuple ts)), some (.d (.list ss)), some (.d (.tuple zs))] n6 = some (.cell ms, n6) := by
      have hT : fTup (faCons (fOp2 (seeB subD) (lenS (faCons (fVar 4) faNil)) (fC (.int 1))) faNil) [some (.d (scriptD ns)), some .st, none, some (.d (.tuple ts)), some (.d (.list ss)), some (.d (.tuple zs))] n6 = some (.d (.tuple [.int ((ss.length : Int) - 1)]), n6) := rfl
      have h5 : fVar 5 [some (.d (scriptD ns)), some .st, none, some (.d (.tuple ts)), some (.d (.list ss)), some (.d (.tuple zs))] n6 = some (.d (.tuple zs), n6) := rfl
      have hadd : fOp2 addL (fVar 5) (fTup (faCons (fOp2 (seeB subD) (lenS (faCons (fVar 4) faNil)) (fC (.int 1))) faNil)) [some (.d (scriptD ns)), some .st, none, some (.d (.tuple ts)), some (.d (.list ss)), some (.d (.tuple zs))] n6 = some (.d (.tuple (zs ++ [.int ((ss.length : Int) - 1)])), n6) := by
        simp only [fOp2, h5, hT, addL, seeB, Sv.see, addD]
        rw [if_pos (by rw [List.length_singleton]; show _ ≤ 100000; omega)]
      simp only [fSortI, faCons, hadd, faNil, Sv.arg, hi1]
      rw [if_pos hi2, hi3]
    have a3 : fVar 3 [some (.d (scriptD ns)), some .st, none, some (.d (.tuple ts)), some (.d (.list ss)), some (.d (.tuple zs))] n6 = some (.d (.tuple ts), n6) := rfl
    have a4 : fBi (see1 tupG) (faCons (fVar 4) faNil) [some (.d (scriptD ns)), some .st, none, some (.d (.tuple ts)), some (.d (.list ss)), some (.d (.tuple zs))] n6 = some (.d (.tuple ss), n6) := rfl
    have a5 := tup_ev (.inl hs)
    show fTup _ [some (.d (scriptD ns)), some .st, none, some (.d (.tuple ts)), some (.d (.list ss)), some (.d (.tuple zs))] n6 = _
    simp only [fTup, faCons, a3, a4, a5, faNil, Sv.arg, keepAll]
    rfl
end Sb

namespace Sb
open PySem PySem.Spec PyProof.Rows L2
/-! ### a generated recipe is one -/
theorem num_in {i lo hi : Int} (h1 : lo ≤ i) (h2 : i ≤ hi) : numD (.int i) lo hi = true := by
  show (decide _ && decide _) = true
  rw [decide_eq_true h1, decide_eq_true h2]
  rfl
theorem goodR_ok {m s : Nat} {r : PyData} (h : goodR m s r) : readingD r m s = true := by
  obtain ⟨w, j, rfl, h⟩ := h
  rcases h with ⟨hw, h⟩ | ⟨hw, h⟩
  · have e : readingD (.tuple [.str w, .int (j : Int)]) m s = numD (.int j) 0 ((m : Int) - 1) := if_pos hw
    rw [e]
    exact num_in (by omega) (by omega)
  · have e : readingD (.tuple [.str w, .int (j : Int)]) m s = (decide (w = ("step" : Str)) && numD (.int j) 0 ((s : Int) - 1)) := if_neg (by rw [hw]; decide)
    rw [e, decide_eq_true hw, Bool.true_and]
    exact num_in (by omega) (by omega)
theorem goodS_ok {m s : Nat} {d : PyData} (h : goodS m s d) : stepD d m s = true := by
  obtain ⟨o, rs, rfl, h1, h2, h3, h4⟩ := h
  show (match lookM mREADINGS' o with
    | some k => tupD (.tuple rs) k k && (seqD (.tuple rs)).all (fun x => readingD x m s)
    | none => false) = true
  rw [h1]
  show (tupD (.tuple rs) (rs.length : Int) (rs.length : Int) && rs.all (fun x => readingD x m s)) = true
  rw [tup_yes (by omega) (by omega), Bool.true_and, List.all_eq_true]
  exact fun x hx => goodR_ok (h4 x hx)
theorem smDs_of : ∀ {ds : List PyData}, (∀ d ∈ ds, smD d = true) → smDs ds = true
  | [], _ => rfl
  | d :: r, h => by
    show (smD d && smDs r) = true
    rw [h d List.mem_cons_self, smDs_of fun x hx => h x (List.mem_cons_of_mem _ hx)]
    rfl
theorem goodS_sm {m s : Nat} {d : PyData} (h : goodS m s d) : smD d = true := by
  obtain ⟨o, rs, rfl, h1, h2, h3, h4⟩ := h
  refine smDs_of fun x hx => ?_
  simp only [List.mem_cons, List.not_mem_nil, or_false] at hx
  rcases hx with rfl | rfl
  · exact decide_eq_true (by omega)
  · refine smDs_of fun x hx => ?_
    obtain ⟨w, j, rfl, h⟩ := h4 x hx
    refine smDs_of fun x hx => ?_
    simp only [List.mem_cons, List.not_mem_nil, or_false] at hx
    rcases hx with rfl | rfl
    · rcases h with ⟨rfl, _⟩ | ⟨rfl, _⟩ <;> decide +kernel
    · rfl
theorem prod_le : ∀ {ts : List PyData}, (∀ t ∈ ts, okT t) → prodD ts ≤ 3 ^ ts.length
  | [], _ => Nat.le_refl _
  | t :: r, h => by
    obtain ⟨es, rfl, _, h3, _⟩ := h t List.mem_cons_self
    have ih := prod_le fun x hx => h x (List.mem_cons_of_mem _ hx)
    rw [prodD, List.length_cons, Nat.pow_succ, Nat.mul_comm]
    exact Nat.mul_le_mul ih h3
variable {r : PyData} {ts ss ms : List PyData}
theorem RecOk.ok (h : RecOk r ts ss ms) : recipeD r = true ∧ smD r = true := by
  obtain ⟨rfl, t1, t3, th, s1, s5, st, md⟩ := h
  constructor
  · show (thingsD (.tuple ts) && (stepsD (.tuple ss) (ts.length : Int) && madeD (.tuple ms) (ss.length : Int))) = true
    have e1 : thingsD (.tuple ts) = true := by
      show (tupD (.tuple ts) 1 5 && ts.all thingD && decide (prodD ts ≤ 256)) = true
      have : prodD ts ≤ 27 := Nat.le_trans (prod_le th) (Nat.le_trans (Nat.pow_le_pow_right (by omega) t3) (by decide))
      rw [tup_yes (by omega) (by omega), decide_eq_true (by omega), List.all_eq_true.mpr fun t ht => by obtain ⟨_, _, _, _, g, _⟩ := th t ht; exact g]
      rfl
    have e2 : stepsD (.tuple ss) (ts.length : Int) = true := by
      show (tupD (.tuple ss) 1 8 && stepsAllD ss (ts.length : Int) 0) = true
      rw [tup_yes (by omega) (by omega), Bool.true_and, stepsAll_iff, List.all_eq_true]
      intro j hj
      have hj := List.mem_range.mp hj
      rw [show 0 + j = j by omega, List.getD_eq_getElem?_getD, List.getElem?_eq_getElem hj]
      exact goodS_ok (st j _ (List.getElem?_eq_getElem hj))
    have e3 : madeD (.tuple ms) (ss.length : Int) = true := by
      rcases md with rfl | ⟨j, hj, rfl⟩
      · show (true && (numD (.int ((ss.length - 1 : Nat) : Int)) 0 ((ss.length : Int) - 1) && true) && true) = true
        rw [num_in (by omega) (by omega)]
        rfl
      · show (true && (numD (.int (j : Int)) 0 ((ss.length : Int) - 1) && (numD (.int ((ss.length - 1 : Nat) : Int)) 0 ((ss.length : Int) - 1) && true)) && (decide ((j : Int) < ((ss.length - 1 : Nat) : Int)) && true)) = true
        rw [num_in (by omega) (by omega), num_in (by omega) (by omega), decide_eq_true (by omega)]
        rfl
    rw [e1, e2, e3]
    rfl
  · refine smDs_of fun x hx => ?_
    simp only [List.mem_cons, List.not_mem_nil, or_false] at hx
    rcases hx with rfl | rfl | rfl
    · exact smDs_of fun t ht => by obtain ⟨_, _, _, _, _, g, _⟩ := th t ht; exact g
    · refine smDs_of fun d hd => ?_
      obtain ⟨j, hj⟩ := List.getElem?_of_mem hd
      exact goodS_sm (st j d hj)
    · rcases md with rfl | ⟨j, hj, rfl⟩ <;> rfl
theorem m_check_recipe (h : recipeD r = true) (hs : smD r = true) (n : Nat) : F_check_recipe [.d r] n = some (.d .none, n) := by
  have hc := notb (call_ev (fa := faCons (fVar 0) faNil) (e := argsE 1 1 [.d r]) (np := 1) (as := [.d r]) rfl rfl (m_is_recipe r n hs))
  rw [h] at hc
  refine run_nx rfl (e' := argsE 1 1 [.d r]) ?_
  show sIf _ _ _ (argsE 1 1 [.d r]) n = _
  rw [if_st hc]
  rfl
/-! ### acts -/
def atD (ts : List PyData) : PyData → PyData
  | .int i => ts.getD i.toNat .none
  | _ => .none
def readsOf : PyData → List PyData
  | .tuple [_, .tuple rs] => rs
  | _ => []
def pinD (ts : List PyData) (t x : PyData) : Bool := numD t 0 ((ts.length : Int) - 1) && numD x 0 (((seqD (atD ts t)).length : Int) - 1)
def hideD (ts ss : List PyData) (s t : PyData) : Bool := numD s 0 ((ss.length : Int) - 1) && numD t 0 ((ts.length : Int) - 1) && (readsOf (atD ss s)).any (fun z => PyData.eqv z (.tuple [.str "thing", t]))
def actD (ts ss : List PyData) : PyData → Bool
  | .tuple [.str z, n, o] => if z = "pin" then pinD ts n o else decide (z = ("hide" : Str)) && hideD ts ss n o
  | _ => false
def actsD (ts ss : List PyData) (d : PyData) : Bool := tupD d 0 12 && (seqD d).all (actD ts ss) && ascD (seqD d)
theorem num_at {d : PyData} {ds : List PyData} (h : numD d 0 ((ds.length : Int) - 1) = true) : ∃ (i : Nat) (e : PyData), d = .int (i : Int) ∧ ds[i]? = some e ∧ atD ds d = e ∧ i < ds.length := by
  obtain ⟨z, rfl, h1, h2⟩ := num_int h
  have hz : z = ((z.toNat : Nat) : Int) := by omega
  have hi : z.toNat < ds.length := by omega
  refine ⟨z.toNat, ds[z.toNat], by rw [← hz], List.getElem?_eq_getElem hi, ?_, hi⟩
  show ds.getD z.toNat .none = _
  rw [List.getD_eq_getElem?_getD, List.getElem?_eq_getElem hi]
  rfl
theorem shaped_rd (j : Int) : SeqAt.shaped (.tuple [.str "thing", .int j]) = true := by
  have e : PyData.strOk "thing" = true := by decide +kernel
  simp [SeqAt.shaped, PyData.canLay0, PyData.canLayAll0, PyData.depth, PyData.depthAll, e]
theorem lay_rs {m s : Nat} : ∀ {rs : List PyData}, (∀ x ∈ rs, goodR m s x) → PyData.canLayAll0 rs = true
  | [], _ => rfl
  | x :: rs, h => by
    have e1 : PyData.strOk "thing" = true := by decide +kernel
    have e2 : PyData.strOk "step" = true := by decide +kernel
    rw [PyData.canLayAll0, lay_rs fun y hy => h y (List.mem_cons_of_mem _ hy), Bool.and_true]
    obtain ⟨w, j, rfl, g⟩ := h x List.mem_cons_self
    rcases g with ⟨rfl, _⟩ | ⟨rfl, _⟩ <;> simp [PyData.canLay0, PyData.canLayAll0, e1, e2]
theorem in_reads {m s : Nat} {o : Str} {rs : List PyData} (hr : ∀ x ∈ rs, goodR m s x) (j : Int) : inD false (.tuple [.str "thing", .int j]) (.tuple rs) = some (.bool (rs.any fun z => PyData.eqv z (.tuple [.str "thing", .int j]))) := by
  show (if SeqAt.shaped (.tuple [.str "thing", .int j]) = true ∧ PyData.canLayAll0 rs = true then some (PyData.bool ((rs.any fun z => PyData.eqv z (.tuple [.str "thing", .int j])) != false)) else none) = _
  rw [if_pos ⟨shaped_rd j, lay_rs hr⟩, Bool.bne_false]
theorem act_no {d : PyData} (h : tupD d 3 3 = false) : actD ts ss d = false := by
  unfold actD
  split
  · cases h
  · rfl
theorem act_form {d : PyData} (h : actD ts ss d = true) : ∃ (z : Str) (i j : Nat), d = .tuple [.str z, .int (i : Int), .int (j : Int)] := by
  unfold actD at h
  split at h
  · rename_i z x y
    split at h
    · unfold pinD at h
      rw [Bool.and_eq_true] at h
      obtain ⟨i, _, rfl, _⟩ := num_at h.1
      obtain ⟨j, rfl, _⟩ := num_int h.2
      exact ⟨z, i, j.toNat, by congr; omega⟩
    · unfold hideD at h
      simp only [Bool.and_eq_true] at h
      obtain ⟨i, _, rfl, _⟩ := num_at h.2.1.1
      obtain ⟨j, _, rfl, _⟩ := num_at h.2.1.2
      exact ⟨z, i, j, rfl⟩
  · cases h
end Sb

namespace Sb
open PySem PySem.Spec PyProof.Rows L2
variable {r : PyData} {ts ss ms : List PyData}
end Sb

namespace Sb
open PySem PySem.Spec PyProof.Rows L2
variable {r : PyData} {ts ss ms : List PyData}
/-! ### all acts -/
theorem eqv_pair (w : Str) (j : Int) : PyData.eqv (.tuple [.str w, .int j]) (.tuple [.str w, .int j]) = true := by
  simp [PyData.eqv, PyData.eqvAll]
theorem act_hide {z : Str} (hz : z = "hide") (x y : PyData) : actD ts ss (.tuple [.str z, x, y]) = hideD ts ss x y := by
  have e1 : actD ts ss (.tuple [.str z, x, y]) = (decide (z = ("hide" : Str)) && hideD ts ss x y) := if_neg (by rw [hz]; decide)
  rw [e1, decide_eq_true hz, Bool.true_and]
theorem act_pin {z : Str} (hz : z = "pin") (x y : PyData) : actD ts ss (.tuple [.str z, x, y]) = pinD ts x y := if_pos hz
theorem at_get {ds : List PyData} {i : Nat} {d : PyData} (h : ds[i]? = some d) : atD ds (.int (i : Int)) = d := by
  show ds.getD ((i : Int)).toNat .none = _
  rw [Int.toNat_natCast, List.getD_eq_getElem?_getD, h]
  rfl
theorem hide_ok {i j : Nat} {o : Str} {rs : List PyData} (h : RecOk r ts ss ms) (hi : ss[i]? = some (.tuple [.str o, .tuple rs])) (hj : j < ts.length) : actD ts ss (.tuple [.str "hide", .int (i : Int), .int (j : Int)]) = rs.any fun z => PyData.eqv z (.tuple [.str "thing", .int (j : Int)]) := by
  have hl := (List.getElem?_eq_some_iff.mp hi).1
  rw [act_hide rfl]
  unfold hideD
  rw [num_in (by omega) (by omega), num_in (by omega) (by omega), at_get hi]
  rfl
theorem hide_lc (h : RecOk r ts ss ms) (i s : Nat) (a b x y : Option Sv) {o : Str} {all : List PyData} (hi : ss[i]? = some (.tuple [.str o, .tuple all])) : ∀ (rs : List PyData), (∀ z ∈ rs, goodR ts.length s z ∧ z ∈ all) →
    ∃ ys, (∀ n, lcL (tgT [(tgN 5), (tgN 6)]) [5, 6] (bT (fOp2 (seeB (eqD false)) (fVar 5) (fC (.str "thing")))) (fTup (faCons (fC (.str "hide")) (faCons (fVar 2) (faCons (fVar 6) faNil)))) rs [a, b, some (.d (.int i)), x, y, none, none, none] n = some (ys, n)) ∧ ys.length ≤ rs.length ∧ ∀ z ∈ ys, actD ts ss z = true
  | [], _ => ⟨[], fun _ => rfl, Nat.le_refl _, fun z hz => by cases hz⟩
  | z :: rs, hr => by
    obtain ⟨ys, q, l, g⟩ := hide_lc h i s a b x y hi rs fun w hw => hr w (List.mem_cons_of_mem _ hw)
    obtain ⟨⟨w, j, ez, hw⟩, hm⟩ := hr z List.mem_cons_self
    subst ez
    have ht : tgT [(tgN 5), (tgN 6)] (.tuple [.str w, .int (j : Int)]) (wipeE [a, b, some (.d (.int i)), x, y, none, none, none] [5, 6]) = some [a, b, some (.d (.int i)), x, y, some (.d (.str w)), some (.d (.int j)), none] := rfl
    have hc := fun n => bt (cmp_ev (g := eqD false) (fa := fVar 5) (fb := fC (.str "thing")) (e := [a, b, some (.d (.int i)), x, y, some (.d (.str w)), some (.d (.int j)), none]) (n := n) (a := .str w) (b := .str "thing") rfl rfl (eq_str w "thing"))
    have hf : ∀ n, fTup (faCons (fC (.str "hide")) (faCons (fVar 2) (faCons (fVar 6) faNil))) [a, b, some (.d (.int i)), x, y, some (.d (.str w)), some (.d (.int j)), none] n = some (.d (.tuple [.str "hide", .int i, .int j]), n) := fun _ => rfl
    by_cases e : w = ("thing" : Str)
    · have hj : j < ts.length := by
        rcases hw with ⟨_, k⟩ | ⟨k, _⟩
        · exact k
        · rw [k] at e; exact absurd e (by decide)
      simp only [decide_eq_true e] at hc
      refine ⟨.tuple [.str "hide", .int i, .int j] :: ys, fun n => ?_, Nat.succ_le_succ l, fun v hv => ?_⟩
      · simp only [lcL, ht, hc n, hf n, Sv.take, q n]
      · rcases List.mem_cons.mp hv with k | k
        · rw [k, hide_ok h hi hj, List.any_eq_true]
          exact ⟨_, hm, by rw [e]; exact eqv_pair _ _⟩
        · exact g v k
    · simp only [decide_eq_false e] at hc
      refine ⟨ys, fun n => ?_, Nat.le_trans l (Nat.le_succ _), g⟩
      simp only [lcL, ht, hc n, q n]
def hideB : FS := (sExt 1 (fLc (itSee (fOp2 (seeB ixD) (fVar 3) (fC (.int 1)))) (tgT [(tgN 5), (tgN 6)]) [5, 6] (bT (fOp2 (seeB (eqD false)) (fVar 5) (fC (.str "thing")))) (fTup (faCons (fC (.str "hide")) (faCons (fVar 2) (faCons (fVar 6) faNil))))))
theorem ext_ev {i : Nat} {f : FE} {e n n1 xs ys} (h : f e n = some (.cell ys, n1)) (hc : cellAt e i = some xs) (hl : xs.length + ys.length ≤ big) : sExt i f e n = some (.nx, e.set i (some (.cell (xs ++ ys))), n1) := by
  simp [sExt, h, hc, hl]
theorem lc_ev {it : FI} {tg : FG} {own : List Nat} {t : FT} {f : FE} {e n n1 xs ys n2} (h : it e n = some (xs, n1)) (hl : xs.length ≤ big) (q : lcL tg own t f xs e n1 = some (ys, n2)) : fLc it tg own t f e n = some (.cell ys, n2) := by
  simp [fLc, h, hl, q]
theorem hide_loop (h : RecOk r ts ss ms) : ∀ (ds : List PyData) (k : Nat) (fd : List PyData), (∀ (j : Nat) (d : PyData), ds[j]? = some d → ss[k + j]? = some d) → fd.length + 3 * ds.length ≤ 1000 → (∀ a ∈ fd, actD ts ss a = true) →
    ∃ fd', (∀ n, forL (tgT [(tgN 2), (tgN 3)]) [2, 3] hideB (pairsD k ds) [some (.d r), some (.cell fd), none, none, none, none, none, none] n = some (.nx, [some (.d r), some (.cell fd'), none, none, none, none, none, none], n)) ∧ fd'.length ≤ fd.length + 3 * ds.length ∧ ∀ a ∈ fd', actD ts ss a = true
  | [], k, fd, _, _, hf => ⟨fd, fun _ => rfl, Nat.le_refl _, hf⟩
  | d :: ds, k, fd, hd, hl, hf => by
    rw [List.length_cons] at hl
    have hk : ss[k]? = some d := hd 0 d rfl
    obtain ⟨o, rs, ed, ho, r3, _, hr⟩ := h.st k d hk
    subst ed
    obtain ⟨ys, q, l0, g0⟩ := hide_lc h k k (some (.d r)) (some (.cell fd)) (some (.d (.tuple [.str o, .tuple rs]))) none hk rs fun z hz => ⟨hr z hz, hz⟩
    obtain ⟨fd', q2, l2, g2⟩ := hide_loop h ds (k + 1) (fd ++ ys) (fun j e hj => by
      have := hd (j + 1) e hj
      rw [show k + 1 + j = k + (j + 1) by omega]
      exact this) (by rw [List.length_append]; omega) (fun a ha => by
      rcases List.mem_append.mp ha with z | z
      · exact hf a z
      · exact g0 a z)
    refine ⟨fd', fun n => ?_, by rw [List.length_append] at l2; rw [List.length_cons]; omega, g2⟩
    rw [← q2 n]
    have hb : fd.length + ys.length ≤ big := by
      show _ ≤ 100000
      omega
    have ht : tgT [(tgN 2), (tgN 3)] (.tuple [.int (k : Int), .tuple [.str o, .tuple rs]]) [some (.d r), some (.cell fd), none, none, none, none, none, none] = some [some (.d r), some (.cell fd), some (.d (.int k)), some (.d (.tuple [.str o, .tuple rs])), none, none, none, none] := rfl
    have hB : hideB [some (.d r), some (.cell fd), some (.d (.int k)), some (.d (.tuple [.str o, .tuple rs])), none, none, none, none] n = some (.nx, [some (.d r), some (.cell (fd ++ ys)), some (.d (.int k)), some (.d (.tuple [.str o, .tuple rs])), none, none, none, none], n) :=
      ext_ev (lc_ev (xs := rs) rfl (by show _ ≤ 100000; omega) (q n)) rfl hb
    have hw : wipeE [some (.d r), some (.cell (fd ++ ys)), some (.d (.int k)), some (.d (.tuple [.str o, .tuple rs])), none, none, none, none] [2, 3] = [some (.d r), some (.cell (fd ++ ys)), none, none, none, none, none, none] := rfl
    simp only [pairsD, forL, ht, hB, hw]
theorem pin_ok {i k : Nat} {es : List PyData} (hi : ts[i]? = some (.tuple es)) (hk : k < es.length) : actD ts ss (.tuple [.str "pin", .int (i : Int), .int (k : Int)]) = true := by
  have hl := (List.getElem?_eq_some_iff.mp hi).1
  rw [act_pin rfl]
  unfold pinD
  rw [num_in (by omega) (by omega), at_get hi]
  exact num_in (i := (k : Int)) (lo := 0) (hi := (es.length : Int) - 1) (by omega) (by omega)
theorem pin_lc (i : Nat) (a b x y : Option Sv) {es : List PyData} (hi : ts[i]? = some (.tuple es)) : ∀ (xs : List PyData), (∀ z ∈ xs, ∃ k : Nat, z = .int (k : Int) ∧ k < es.length) →
    ∃ ys, (∀ n, lcL (tgN 7) [7] tT (fTup (faCons (fC (.str "pin")) (faCons (fVar 2) (faCons (fVar 7) faNil)))) xs [a, b, some (.d (.int i)), none, x, none, none, none] n = some (ys, n)) ∧ ys.length = xs.length ∧ ∀ z ∈ ys, actD ts ss z = true
  | [], _ => ⟨[], fun _ => rfl, rfl, fun z hz => by cases hz⟩
  | z :: xs, hr => by
    obtain ⟨ys, q, l, g⟩ := pin_lc i a b x y hi xs fun w hw => hr w (List.mem_cons_of_mem _ hw)
    obtain ⟨k, ez, hk⟩ := hr z List.mem_cons_self
    subst ez
    have ht : tgN 7 (.int (k : Int)) (wipeE [a, b, some (.d (.int i)), none, x, none, none, none] [7]) = some [a, b, some (.d (.int i)), none, x, none, none, some (.d (.int k))] := rfl
    have hf : ∀ n, fTup (faCons (fC (.str "pin")) (faCons (fVar 2) (faCons (fVar 7) faNil))) [a, b, some (.d (.int i)), none, x, none, none, some (.d (.int k))] n = some (.d (.tuple [.str "pin", .int i, .int k]), n) := fun _ => rfl
    refine ⟨.tuple [.str "pin", .int i, .int k] :: ys, fun n => ?_, by rw [List.length_cons, List.length_cons, l], fun v hv => ?_⟩
    · simp only [lcL, ht, tT, hf n, Sv.take, q n]
    · rcases List.mem_cons.mp hv with e | e
      · rw [e]; exact pin_ok hi hk
      · exact g v e
def pinB : FS := (sExt 1 (fLc (itRng1 (faCons (lenS (faCons (fVar 4) faNil)) faNil)) (tgN 7) [7] tT (fTup (faCons (fC (.str "pin")) (faCons (fVar 2) (faCons (fVar 7) faNil))))))
theorem rng_ev {f : FE} {e n n1} {j : Nat} (h : f e n = some (.d (.int (j : Int)), n1)) (hj : j ≤ 1000000) : itRng1 (faCons f faNil) e n = some (intsUp 0 j, n1) := by
  have hs : smallI (j : Int) = true := by
    unfold smallI
    rw [decide_eq_true (by omega), decide_eq_true (by omega)]
    rfl
  simp only [itRng1, faCons, h, faNil, Sv.arg]
  rw [if_pos hs, Int.toNat_natCast]
theorem ups_len (k : Nat) : (intsUp 0 k).length = k := by unfold intsUp; rw [List.length_map, List.length_range]
theorem ups_mem {k : Nat} {z : PyData} (hz : z ∈ intsUp 0 k) : ∃ i : Nat, z = .int (i : Int) ∧ i < k := by
  unfold intsUp at hz
  obtain ⟨i, hi, rfl⟩ := List.mem_map.mp hz
  have e : (0 : Int) + (i : Int) = (i : Int) := by omega
  exact ⟨i, by rw [e], List.mem_range.mp hi⟩
theorem pin_one (h : RecOk r ts ss ms) (d : PyData) (k : Nat) (fd : List PyData) (hk : ts[k]? = some d) (hl : fd.length ≤ 1000) :
    ∃ ys, (∀ n, pinB [some (.d r), some (.cell fd), some (.d (.int k)), none, some (.d d), none, none, none] n = some (.nx, [some (.d r), some (.cell (fd ++ ys)), some (.d (.int k)), none, some (.d d), none, none, none], n)) ∧ 1 ≤ ys.length ∧ ys.length ≤ 3 ∧ ∀ a ∈ ys, actD ts ss a = true := by
  obtain ⟨es, ed, e1, e3, _⟩ := h.th d (List.mem_of_getElem? hk)
  subst ed
  obtain ⟨ys, q, l0, g0⟩ := pin_lc (ss := ss) k (some (.d r)) (some (.cell fd)) (some (.d (.tuple es))) none hk (intsUp 0 es.length) fun z hz => ups_mem hz
  rw [ups_len] at l0
  have hb : fd.length + ys.length ≤ big := by
    show _ ≤ 100000
    omega
  refine ⟨ys, fun n => ?_, by omega, by omega, g0⟩
  have hlen : lenS (faCons (fVar 4) faNil) [some (.d r), some (.cell fd), some (.d (.int k)), none, some (.d (.tuple es)), none, none, none] n = some (.d (.int es.length), n) := len_ev rfl tlen
  have hr := rng_ev hlen (by omega)
  exact ext_ev (lc_ev hr (by rw [ups_len]; show _ ≤ 100000; omega) (q n)) rfl hb
theorem pin_loop (h : RecOk r ts ss ms) : ∀ (ds : List PyData) (k : Nat) (fd : List PyData), (∀ (j : Nat) (d : PyData), ds[j]? = some d → ts[k + j]? = some d) → fd.length + 3 * ds.length ≤ 1000 → (∀ a ∈ fd, actD ts ss a = true) →
    ∃ fd', (∀ n, forL (tgT [(tgN 2), (tgN 4)]) [2, 4] pinB (pairsD k ds) [some (.d r), some (.cell fd), none, none, none, none, none, none] n = some (.nx, [some (.d r), some (.cell fd'), none, none, none, none, none, none], n)) ∧ fd.length + ds.length ≤ fd'.length ∧ fd'.length ≤ fd.length + 3 * ds.length ∧ ∀ a ∈ fd', actD ts ss a = true
  | [], k, fd, _, _, hf => ⟨fd, fun _ => rfl, Nat.le_refl _, Nat.le_refl _, hf⟩
  | d :: ds, k, fd, hd, hl, hf => by
    rw [List.length_cons] at hl
    have hk : ts[k]? = some d := hd 0 d rfl
    obtain ⟨ys, hB, y1, y3, g0⟩ := pin_one h d k fd hk (by omega)
    obtain ⟨fd', q2, l1, l2, g2⟩ := pin_loop h ds (k + 1) (fd ++ ys) (fun j e hj => by
      have := hd (j + 1) e hj
      rw [show k + 1 + j = k + (j + 1) by omega]
      exact this) (by rw [List.length_append]; omega) (fun a ha => by
      rcases List.mem_append.mp ha with z | z
      · exact hf a z
      · exact g0 a z)
    rw [List.length_append] at l1 l2
    refine ⟨fd', fun n => ?_, by rw [List.length_cons]; omega, by rw [List.length_cons]; omega, g2⟩
    rw [← q2 n]
    have ht : tgT [(tgN 2), (tgN 4)] (.tuple [.int (k : Int), d]) [some (.d r), some (.cell fd), none, none, none, none, none, none] = some [some (.d r), some (.cell fd), some (.d (.int k)), none, some (.d d), none, none, none] := rfl
    have hw : wipeE [some (.d r), some (.cell (fd ++ ys)), some (.d (.int k)), none, some (.d d), none, none, none] [2, 4] = [some (.d r), some (.cell (fd ++ ys)), none, none, none, none, none, none] := rfl
    simp only [pairsD, forL, ht, hB n, hw]
theorem act_form2 {d : PyData} (h : actD ts ss d = true) : ∃ (z : Str) (i j : Nat), d = .tuple [.str z, .int (i : Int), .int (j : Int)] ∧ (z = "pin" ∨ z = "hide") := by
  obtain ⟨z, i, j, rfl⟩ := act_form h
  refine ⟨z, i, j, rfl, ?_⟩
  by_cases hz : z = ("pin" : Str)
  · exact .inl hz
  · have e1 : actD ts ss (.tuple [.str z, .int i, .int j]) = (decide (z = ("hide" : Str)) && hideD ts ss (.int i) (.int j)) := if_neg hz
    rw [e1, Bool.and_eq_true] at h
    exact .inr (of_decide_eq_true h.1)
theorem acts_keys : ∀ {al : List PyData}, (∀ a ∈ al, actD ts ss a = true) → ∃ kss, keysAll al = some kss ∧ kss.length = al.length
  | [], _ => ⟨[], rfl, rfl⟩
  | a :: al, h => by
    obtain ⟨kss, e, l⟩ := acts_keys fun x hx => h x (List.mem_cons_of_mem _ hx)
    obtain ⟨z, i, j, rfl⟩ := act_form (h a List.mem_cons_self)
    refine ⟨[.inr z, .inl i, .inl j] :: kss, ?_, by rw [List.length_cons, List.length_cons, l]⟩
    show (match keysOf [.str z, .int i, .int j], keysAll al with
      | some k, some ks => some (k :: ks)
      | _, _ => none) = _
    rw [e]
    rfl
theorem acts_sortOk {al : List PyData} (h : ∀ a ∈ al, actD ts ss a = true) (hl : al.length ≤ 1000) : sortOk al = true := by
  unfold sortOk
  have hb : al.length ≤ big := by
    show _ ≤ 100000
    omega
  simp only [Bool.and_eq_true, List.all_eq_true, Bool.or_eq_true, decide_eq_true_eq]
  refine ⟨⟨⟨fun a ha b hb => ?_, .inl fun a ha => ?_⟩, fun a ha => ?_⟩, hb⟩
  · obtain ⟨_, _, _, rfl⟩ := act_form (h a ha)
    obtain ⟨_, _, _, rfl⟩ := act_form (h b hb)
    rfl
  · obtain ⟨_, _, _, rfl⟩ := act_form (h a ha)
    rfl
  · obtain ⟨_, _, _, rfl⟩ := act_form (h a ha)
    simp [PyData.depth, PyData.depthAll]
theorem acts_lay : ∀ {al : List PyData}, (∀ a ∈ al, actD ts ss a = true) → PyData.canLayAll0 al = true ∧ PyData.depthAll al ≤ 2
  | [], _ => ⟨rfl, by simp [PyData.depthAll]⟩
  | a :: al, h => by
    obtain ⟨e, l⟩ := acts_lay fun x hx => h x (List.mem_cons_of_mem _ hx)
    obtain ⟨z, i, j, rfl, hz⟩ := act_form2 (h a List.mem_cons_self)
    have e1 : PyData.strOk "pin" = true := by decide +kernel
    have e2 : PyData.strOk "hide" = true := by decide +kernel
    constructor
    · rw [PyData.canLayAll0, e, Bool.and_true]
      rcases hz with rfl | rfl <;> simp [PyData.canLay0, PyData.canLayAll0, e1, e2]
    · rw [PyData.depthAll]
      simp [PyData.depth, PyData.depthAll]
      omega
theorem acts_shaped {al : List PyData} (h : ∀ a ∈ al, actD ts ss a = true) : SeqAt.shaped (.list al) = true := by
  obtain ⟨e, l⟩ := acts_lay h
  exact shaped_of (by rw [PyData.canLay0]; exact e) (by rw [PyData.depth]; omega)
theorem keyT_inj {a b : List Key} (h : keyT a = keyT b) : a = b := by
  unfold keyT at h
  injection h with h
  refine toks_inj ?_
  rw [h]
end Sb

namespace Sb
open PySem PySem.Spec PyProof.Rows L2
/-! ### worlds -/
def wD (w : List Nat) : PyData := .tuple (w.map fun (i : Nat) => PyData.int (i : Int))
def grow (k : Nat) (ws : List (List Nat)) : List (List Nat) := ws.flatMap fun w => (List.range k).map fun i => w ++ [i]
def worldsOf (ts : List PyData) : List (List Nat) := ts.foldl (fun ws t => grow (seqD t).length ws) [[]]
theorem ups_eq (k : Nat) : intsUp 0 k = (List.range k).map fun (i : Nat) => PyData.int (i : Int) := by
  unfold intsUp
  refine congrArg (fun f => List.map f (List.range k)) (funext fun i => ?_)
  rw [show (0 : Int) + (i : Int) = (i : Int) by omega]
theorem grow_len (k : Nat) : ∀ ws, (grow k ws).length = ws.length * k
  | [] => by
    unfold grow
    rw [List.flatMap_nil, List.length_nil, Nat.zero_mul]
  | w :: ws => by
    have ih := grow_len k ws
    unfold grow at ih ⊢
    rw [List.flatMap_cons, List.length_append, ih, List.length_map, List.length_range, List.length_cons, Nat.succ_mul, Nat.add_comm]
theorem grow_mem {k : Nat} {ws : List (List Nat)} {v : List Nat} : v ∈ grow k ws ↔ ∃ w ∈ ws, ∃ i, i < k ∧ v = w ++ [i] := by
  unfold grow
  rw [List.mem_flatMap]
  constructor
  · rintro ⟨w, hw, hv⟩
    obtain ⟨i, hi, rfl⟩ := List.mem_map.mp hv
    exact ⟨w, hw, i, List.mem_range.mp hi, rfl⟩
  · rintro ⟨w, hw, i, hi, rfl⟩
    exact ⟨w, hw, List.mem_map.mpr ⟨i, List.mem_range.mpr hi, rfl⟩⟩
theorem wD_app (w : List Nat) (i : Nat) : wD (w ++ [i]) = .tuple (w.map (fun (j : Nat) => PyData.int (j : Int)) ++ [.int (i : Int)]) := by
  unfold wD
  rw [List.map_append]
  rfl
/-! the program's -/
theorem w_app (x0 x1 x2 : Option Sv) (n : Nat) (w : List Nat) (hw : w.length ≤ 100) (j : Nat) : fOp2 addL (fVar 3) (fTup (faCons (fVar 4) faNil)) [x0, x1, x2, some (.d (wD w)), some (.d (.int (j : Int)))] n = some (.d (wD (w ++ [j])), n) := by
  have h3 : fVar 3 [x0, x1, x2, some (.d (wD w)), some (.d (.int (j : Int)))] n = some (.d (.tuple (w.map fun (i : Nat) => PyData.int (i : Int))), n) := rfl
  have h4 : fTup (faCons (fVar 4) faNil) [x0, x1, x2, some (.d (wD w)), some (.d (.int (j : Int)))] n = some (.d (.tuple [.int (j : Int)]), n) := rfl
  have hl : (w.map fun (i : Nat) => PyData.int (i : Int)).length + [PyData.int (j : Int)].length ≤ big := by
    rw [List.length_map, List.length_singleton]
    show _ ≤ 100000
    omega
  rw [wD_app]
  simp only [fOp2, h3, h4, addL, seeB, Sv.see, addD]
  rw [if_pos hl]
theorem lcL_cons {tg : FG} {own : List Nat} {t : FT} {f : FE} {x : PyData} {xs ys : List PyData} {e e1 : Ev} {n : Nat} {y : PyData} (ht : tg x (wipeE e own) = some e1) (h1 : t e1 n = some (true, n)) (hf : f e1 n = some (.d y, n)) (ih : lcL tg own t f xs e n = some (ys, n)) : lcL tg own t f (x :: xs) e n = some (y :: ys, n) := by
  simp only [lcL, ht, h1, hf, Sv.take, ih]
theorem lcLL_cons {tg : FG} {own : List Nat} {t : FT} {it1 : FI} {tg1 : FG} {vs1 : List Nat} {t1 : FT} {f : FE} {x : PyData} {xs zs us ys : List PyData} {e e1 : Ev} {n : Nat} (ht : tg x (wipeE e own) = some e1) (h1 : t e1 n = some (true, n)) (hit : it1 e1 n = some (zs, n)) (hb : zs.length ≤ big) (hin : lcL tg1 vs1 t1 f zs e1 n = some (us, n)) (ih : lcLL tg own t it1 tg1 vs1 t1 f xs e n = some (ys, n)) : lcLL tg own t it1 tg1 vs1 t1 f (x :: xs) e n = some (us ++ ys, n) := by
  simp only [lcLL, ht, h1, hit, if_pos hb, hin, ih]
theorem nats_big {k : Nat} (h : k ≤ 1000) : ((List.range k).map (fun (i : Nat) => PyData.int (i : Int))).length ≤ big := by
  rw [List.length_map, List.length_range]
  show _ ≤ 100000
  omega
theorem w_in (x0 x1 x2 : Option Sv) (n : Nat) (w : List Nat) (hw : w.length ≤ 100) : ∀ js : List Nat, lcL (tgN 4) [4] tT (fOp2 addL (fVar 3) (fTup (faCons (fVar 4) faNil))) (js.map fun (i : Nat) => PyData.int (i : Int)) [x0, x1, x2, some (.d (wD w)), none] n = some (js.map fun i => wD (w ++ [i]), n)
  | [] => rfl
  | j :: js => by
    have ih := w_in x0 x1 x2 n w hw js
    have ht : tgN 4 (.int (j : Int)) (wipeE [x0, x1, x2, some (.d (wD w)), none] [4]) = some [x0, x1, x2, some (.d (wD w)), some (.d (.int (j : Int)))] := rfl
    have hf := w_app x0 x1 x2 n w hw j
    rw [List.map_cons, List.map_cons]
    exact lcL_cons ht rfl hf ih
theorem rng_ev' {f : FE} {e n n1} {j : Nat} (h : f e n = some (.d (.int (j : Int)), n1)) (hj : j ≤ 1000) : itRng1 (faCons f faNil) e n = some ((List.range j).map (fun (i : Nat) => PyData.int (i : Int)), n1) := by
  have hs : smallI (j : Int) = true := by
    unfold smallI
    rw [decide_eq_true (by omega), decide_eq_true (by omega)]
    rfl
  simp only [itRng1, faCons, h, faNil, Sv.arg]
  rw [if_pos hs, Int.toNat_natCast, ups_eq]
theorem w_out (x0 x1 : Option Sv) (n : Nat) (es : List PyData) (he : es.length ≤ 1000) : ∀ ws : List (List Nat), (∀ w ∈ ws, w.length ≤ 100) →
    lcLL (tgN 3) [3, 4] tT (itRng1 (faCons (lenS (faCons (fVar 2) faNil)) faNil)) (tgN 4) [4] tT (fOp2 addL (fVar 3) (fTup (faCons (fVar 4) faNil))) (ws.map wD) [x0, x1, some (.d (.tuple es)), none, none] n = some ((grow es.length ws).map wD, n)
  | [], _ => rfl
  | w :: ws, hw => by
    have ih := w_out x0 x1 n es he ws fun v hv => hw v (List.mem_cons_of_mem _ hv)
    have ht : tgN 3 (wD w) (wipeE [x0, x1, some (.d (.tuple es)), none, none] [3, 4]) = some [x0, x1, some (.d (.tuple es)), some (.d (wD w)), none] := rfl
    have hlen : lenS (faCons (fVar 2) faNil) [x0, x1, some (.d (.tuple es)), some (.d (wD w)), none] n = some (.d (.int es.length), n) := len_ev rfl tlen
    have hr := rng_ev' hlen he
    have hin := w_in x0 x1 (some (.d (.tuple es))) n w (hw w List.mem_cons_self) (List.range es.length)
    have e1 : (grow es.length (w :: ws)).map wD = ((List.range es.length).map fun i => wD (w ++ [i])) ++ (grow es.length ws).map wD := by
      unfold grow
      rw [List.flatMap_cons, List.map_append, List.map_map]
      rfl
    rw [List.map_cons, e1]
    exact lcLL_cons ht rfl hr (nats_big he) hin ih
theorem lc2_ev {it : FI} {tg : FG} {own : List Nat} {t : FT} {it1 : FI} {tg1 : FG} {vs1 : List Nat} {t1 : FT} {f : FE} {e n n1 xs ys n2} (h : it e n = some (xs, n1)) (hl : xs.length ≤ big) (q : lcLL tg own t it1 tg1 vs1 t1 f xs e n1 = some (ys, n2)) (hy : ys.length ≤ big) : fLc2 it tg own t it1 tg1 vs1 t1 f e n = some (.cell ys, n2) := by
  simp only [fLc2, h, if_pos hl, q, if_pos hy]
def growB : FS := (sAsg 1 (fLc2 (itSee (fVar 1)) (tgN 3) [3, 4] tT (itRng1 (faCons (lenS (faCons (fVar 2) faNil)) faNil)) (tgN 4) [4] tT (fOp2 addL (fVar 3) (fTup (faCons (fVar 4) faNil)))))
theorem w_step (x0 : Option Sv) (n : Nat) (es : List PyData) (ws : List (List Nat)) (hw : ∀ w ∈ ws, w.length ≤ 100) (he : es.length ≤ 1000) (hl : ws.length ≤ 1000) (hg : ws.length * es.length ≤ 1000) :
    growB [x0, some (.cell (ws.map wD)), some (.d (.tuple es)), none, none] n = some (.nx, [x0, some (.cell ((grow es.length ws).map wD)), some (.d (.tuple es)), none, none], n) := by
  have h := lc2_ev (it := itSee (fVar 1)) (tg := tgN 3) (own := [3, 4]) (t := tT) (it1 := itRng1 (faCons (lenS (faCons (fVar 2) faNil)) faNil)) (tg1 := tgN 4) (vs1 := [4]) (t1 := tT) (f := fOp2 addL (fVar 3) (fTup (faCons (fVar 4) faNil))) (e := [x0, some (.cell (ws.map wD)), some (.d (.tuple es)), none, none]) (n := n) (n1 := n) (xs := ws.map wD) rfl (by rw [List.length_map]; show _ ≤ 100000; omega) (w_out x0 (some (.cell (ws.map wD))) n es he ws hw) (by rw [List.length_map, grow_len]; show _ ≤ 100000; omega)
  unfold growB
  simp only [sAsg, h, Sv.own, if_true]
  rfl
theorem forL_c {tg : FG} {wp : List Nat} {body : FS} {x : PyData} {xs : List PyData} {e e1 e2 e3 : Ev} {n n2 : Nat} {z : Option (Fl × Ev × Nat)} (ht : tg x e = some e1) (hb : body e1 n = some (.nx, e2, n2)) (hw : wipeE e2 wp = e3) (q : forL tg wp body xs e3 n2 = z) : forL tg wp body (x :: xs) e n = z := by
  simp only [forL, ht, hb, hw, q]
theorem pow_mono3 {a b : Nat} (h : a ≤ b) : 3 ^ a ≤ 3 ^ b := Nat.pow_le_pow_right (by omega) h
theorem w_loop (x0 : Option Sv) (n : Nat) : ∀ (ts : List PyData) (ws : List (List Nat)), (∀ t ∈ ts, okT t) → (∀ w ∈ ws, w.length + ts.length ≤ 100) → ws.length * 3 ^ ts.length ≤ 1000 →
    forL (tgN 2) [2] growB ts [x0, some (.cell (ws.map wD)), none, none, none] n = some (.nx, [x0, some (.cell ((ts.foldl (fun ws t => grow (seqD t).length ws) ws).map wD)), none, none, none], n)
  | [], _, _, _, _ => rfl
  | t :: ts, ws, ht, hw, hl => by
    obtain ⟨es, rfl, e1, e3, _⟩ := ht t List.mem_cons_self
    rw [List.length_cons, Nat.pow_succ] at hl
    have hp : 0 < 3 ^ ts.length := Nat.pow_pos (by omega)
    have hl3 : ws.length * 3 * 3 ^ ts.length ≤ 1000 := by
      rw [Nat.mul_assoc, Nat.mul_comm 3]
      exact hl
    have hl1 : ws.length * 3 ≤ 1000 := Nat.le_trans (Nat.le_mul_of_pos_right _ hp) hl3
    have hge : ws.length * es.length ≤ ws.length * 3 := Nat.mul_le_mul_left _ e3
    have ih := w_loop x0 n ts (grow es.length ws) (fun x hx => ht x (List.mem_cons_of_mem _ hx)) (fun v hv => by
      obtain ⟨w, h1, i, _, rfl⟩ := grow_mem.mp hv
      have := hw w h1
      rw [List.length_cons] at this
      rw [List.length_append, List.length_singleton]
      omega) (by
      rw [grow_len]
      exact Nat.le_trans (Nat.mul_le_mul_right _ hge) hl3)
    have hs := w_step x0 n es ws (fun w h1 => by
      have := hw w h1
      omega) (by omega) (by omega) (by omega)
    refine forL_c (e1 := [x0, some (.cell (ws.map wD)), some (.d (.tuple es)), none, none]) rfl hs rfl ?_
    exact ih
end Sb

namespace Sb
open PySem PySem.Spec PyProof.Rows L2
variable {r : PyData} {ts ss ms : List PyData}
theorem g_retV {i : Nat} {e : Ev} {n : Nat} {xs : List PyData} (h : e[i]? = some (some (.cell xs))) : Gives (sRetV i) e n (.cell xs) n := ⟨e, by unfold sRetV; rw [h]⟩
theorem g_retV' {i : Nat} {e : Ev} {n : Nat} {x : PyData} (h : e[i]? = some (some (.d x))) : Gives (sRetV i) e n (.d x) n := ⟨e, by unfold sRetV; rw [h]⟩
/-! the law's -/
theorem l_app (x0 x1 x2 x3 : Option Sv) (n : Nat) (w : List Nat) (hw : w.length ≤ 100) (j : Nat) : fOp2 addL (fVar 4) (fTup (faCons (fVar 5) faNil)) [x0, x1, x2, x3, some (.d (wD w)), some (.d (.int (j : Int)))] n = some (.d (wD (w ++ [j])), n) := by
  have h3 : fVar 4 [x0, x1, x2, x3, some (.d (wD w)), some (.d (.int (j : Int)))] n = some (.d (.tuple (w.map fun (i : Nat) => PyData.int (i : Int))), n) := by rfl
  have h4 : fTup (faCons (fVar 5) faNil) [x0, x1, x2, x3, some (.d (wD w)), some (.d (.int (j : Int)))] n = some (.d (.tuple [.int (j : Int)]), n) := by rfl
  have hl : (w.map fun (i : Nat) => PyData.int (i : Int)).length + [PyData.int (j : Int)].length ≤ big := by
    rw [List.length_map, List.length_singleton]
    show _ ≤ 100000
    omega
  rw [wD_app]
  simp only [fOp2, h3, h4, addL, seeB, Sv.see, addD]
  rw [if_pos hl]
theorem l_in (x0 x1 x2 x3 : Option Sv) (n : Nat) (w : List Nat) (hw : w.length ≤ 100) : ∀ js : List Nat, lcL (tgN 5) [5] tT (fOp2 addL (fVar 4) (fTup (faCons (fVar 5) faNil))) (js.map fun (i : Nat) => PyData.int (i : Int)) [x0, x1, x2, x3, some (.d (wD w)), none] n = some (js.map fun i => wD (w ++ [i]), n)
  | [] => rfl
  | j :: js => by
    have ih := l_in x0 x1 x2 x3 n w hw js
    have ht : tgN 5 (.int (j : Int)) (wipeE [x0, x1, x2, x3, some (.d (wD w)), none] [5]) = some [x0, x1, x2, x3, some (.d (wD w)), some (.d (.int (j : Int)))] := rfl
    have hf := l_app x0 x1 x2 x3 n w hw j
    rw [List.map_cons, List.map_cons]
    exact lcL_cons ht rfl hf ih
def longB : FS := (sExt 3 (fLc (itRng1 (faCons (lenS (faCons (fVar 2) faNil)) faNil)) (tgN 5) [5] tT (fOp2 addL (fVar 4) (fTup (faCons (fVar 5) faNil)))))
theorem ext_e {i : Nat} {f : FE} {e n n1 xs ys} (h : f e n = some (.cell ys, n1)) (hc : cellAt e i = some xs) (hl : xs.length + ys.length ≤ big) : sExt i f e n = some (.nx, e.set i (some (.cell (xs ++ ys))), n1) := by
  simp [sExt, h, hc, hl]
theorem lc_e {it : FI} {tg : FG} {own : List Nat} {t : FT} {f : FE} {e n n1 xs ys n2} (h : it e n = some (xs, n1)) (hl : xs.length ≤ big) (q : lcL tg own t f xs e n1 = some (ys, n2)) : fLc it tg own t f e n = some (.cell ys, n2) := by
  simp [fLc, h, hl, q]
theorem l_ext (x0 x1 : Option Sv) (n : Nat) (es acc : List PyData) (w : List Nat) (he : es.length ≤ 1000) (hw : w.length ≤ 100) (ha : acc.length + es.length ≤ 2000) :
    longB [x0, x1, some (.d (.tuple es)), some (.cell acc), some (.d (wD w)), none] n = some (.nx, [x0, x1, some (.d (.tuple es)), some (.cell (acc ++ (List.range es.length).map fun i => wD (w ++ [i]))), some (.d (wD w)), none], n) := by
  have hlen : lenS (faCons (fVar 2) faNil) [x0, x1, some (.d (.tuple es)), some (.cell acc), some (.d (wD w)), none] n = some (.d (.int es.length), n) := len_ev rfl tlen
  have hr := rng_ev' hlen he
  exact ext_e (lc_e hr (nats_big he) (l_in x0 x1 _ _ n w hw (List.range es.length))) rfl (by rw [List.length_map, List.length_range]; show _ ≤ 100000; omega)
theorem grow_cons (k : Nat) (w : List Nat) (ws : List (List Nat)) : (grow k (w :: ws)).map wD = ((List.range k).map fun i => wD (w ++ [i])) ++ (grow k ws).map wD := by
  unfold grow
  rw [List.flatMap_cons, List.map_append, List.map_map]
  rfl
theorem l_for (x0 x1 : Option Sv) (n : Nat) (es : List PyData) (he : es.length ≤ 100) : ∀ (ws : List (List Nat)) (acc : List PyData), (∀ w ∈ ws, w.length ≤ 100) → acc.length + ws.length * es.length ≤ 1000 →
    forL (tgN 4) [4] longB (ws.map wD) [x0, x1, some (.d (.tuple es)), some (.cell acc), none, none] n = some (.nx, [x0, x1, some (.d (.tuple es)), some (.cell (acc ++ (grow es.length ws).map wD)), none, none], n)
  | [], acc, _, _ => by
    unfold grow
    rw [List.flatMap_nil, List.map_nil, List.append_nil]
    rfl
  | w :: ws, acc, hw, ha => by
    rw [List.length_cons, Nat.succ_mul] at ha
    have hs := l_ext x0 x1 n es acc w (by omega) (hw w List.mem_cons_self) (by omega)
    have ih := l_for x0 x1 n es he ws (acc ++ (List.range es.length).map fun i => wD (w ++ [i])) (fun v hv => hw v (List.mem_cons_of_mem _ hv)) (by rw [List.length_append, List.length_map, List.length_range]; omega)
    rw [List.append_assoc, ← grow_cons] at ih
    exact forL_c (e1 := [x0, x1, some (.d (.tuple es)), some (.cell acc), some (.d (wD w)), none]) rfl hs rfl ih
/-! their order -/
inductive LtW : List Nat → List Nat → Prop
  | here {i j : Nat} {a b : List Nat} (h : i < j) : LtW (i :: a) (j :: b)
  | there {i : Nat} {a b : List Nat} (h : LtW a b) : LtW (i :: a) (i :: b)
theorem LtW.app {a b : List Nat} (h : LtW a b) (x y : List Nat) : LtW (a ++ x) (b ++ y) := by
  induction h with
  | here h => exact .here h
  | there _ ih => exact .there ih
theorem ltW_last (w : List Nat) {i j : Nat} (h : i < j) : LtW (w ++ [i]) (w ++ [j]) := by
  induction w with
  | nil => exact .here h
  | cons k w ih => exact .there ih
theorem grow_pw {k : Nat} {ws : List (List Nat)} (h : ws.Pairwise LtW) : (grow k ws).Pairwise LtW := by
  unfold grow
  refine List.pairwise_flatMap.mpr ⟨fun w _ => ?_, h.imp fun hab x hx y hy => ?_⟩
  · exact List.pairwise_map.mpr (List.pairwise_lt_range.imp fun hij => ltW_last w hij)
  · obtain ⟨i, _, rfl⟩ := List.mem_map.mp hx
    obtain ⟨j, _, rfl⟩ := List.mem_map.mp hy
    exact hab.app _ _
theorem fold_pw : ∀ (ts : List PyData) (ws : List (List Nat)), ws.Pairwise LtW → (ts.foldl (fun ws t => grow (seqD t).length ws) ws).Pairwise LtW
  | [], _, h => h
  | t :: ts, ws, h => fold_pw ts _ (grow_pw h)
theorem ltW_not {a b : List Nat} (h : LtW a b) : PySem.W.dataLt (wD b) (wD a) = false := by
  unfold wD
  rw [PySem.W.dataLt_tuple]
  induction h with
  | here h =>
    rename_i i j a b
    rw [List.map_cons, List.map_cons, PySem.W.dataLt_all_no (al_int _ _) (ne_int (by omega)), PySem.W.dataLt_int]
    exact decide_eq_false (by omega)
  | there _ ih =>
    rw [List.map_cons, List.map_cons, PySem.W.dataLt_all_yes (al_int _ _) (PySem.W.eqv_refl_alike (.int _) rfl)]
    exact ih
theorem ltW_ne {a b : List Nat} (h : LtW a b) : a ≠ b := by
  induction h with
  | here h => intro e; injection e with e1 _; omega
  | there _ ih => intro e; injection e with _ e2; exact ih e2
def keyW (w : List Nat) : List Key := w.map fun (i : Nat) => Sum.inl (i : Int)
theorem keyW_T (w : List Nat) : keyT (keyW w) = wD w := by
  unfold keyT keyW wD
  rw [List.map_map]
  rfl
theorem keysOf_W : ∀ w : List Nat, keysOf (w.map fun (i : Nat) => PyData.int (i : Int)) = some (keyW w)
  | [] => rfl
  | i :: w => by
    rw [List.map_cons]
    show (match keysOf (w.map fun (i : Nat) => PyData.int (i : Int)) with
      | some ks => some (Sum.inl (i : Int) :: ks)
      | none => none) = _
    rw [keysOf_W w]
    rfl
theorem keysAll_W : ∀ ws : List (List Nat), keysAll (ws.map wD) = some (ws.map keyW)
  | [] => rfl
  | w :: ws => by
    rw [List.map_cons, List.map_cons]
    show (match keysOf (w.map fun (i : Nat) => PyData.int (i : Int)), keysAll (ws.map wD) with
      | some k, some ks => some (k :: ks)
      | _, _ => none) = _
    rw [keysOf_W w, keysAll_W ws]
theorem keyW_inj {a b : List Nat} (h : keyW a = keyW b) : a = b := by
  unfold keyW at h
  induction a generalizing b with
  | nil =>
    cases b with
    | nil => rfl
    | cons _ _ => cases h
  | cons i a ih =>
    cases b with
    | nil => cases h
    | cons j b =>
      rw [List.map_cons, List.map_cons] at h
      injection h with h1 h2
      injection h1 with h1
      rw [ih h2, show i = j by omega]
theorem nub_self {α : Type} [DecidableEq α] : ∀ {xs : List α}, xs.Nodup → nub xs = xs
  | [], _ => rfl
  | x :: xs, h => by
    obtain ⟨h1, h2⟩ := List.nodup_cons.mp h
    unfold nub
    rw [nub_self h2, if_neg h1]
theorem sortX_W {ws : List (List Nat)} (h : ws.Pairwise LtW) : sortX (ws.map keyW) = ws.map wD := by
  unfold sortX
  have hn : (ws.map keyW).Nodup := List.pairwise_map.mpr (h.imp fun hab e => ltW_ne hab (keyW_inj e))
  have hp : (ws.map keyW).Pairwise (fun a b => leK a b = true) := List.pairwise_map.mpr (h.imp fun {a b} hab => by
    unfold leK
    rw [keyW_T, keyW_T, ltW_not hab]
    rfl)
  rw [nub_self hn, List.mergeSort_of_pairwise hp, List.map_map]
  exact congrArg (fun f => List.map f ws) (funext fun w => keyW_T w)
end Sb

namespace Sb
open PySem PySem.Spec PyProof.Rows L2
variable {r : PyData} {ts ss ms : List PyData}
def worldB : FS := (sSeq (sAsg 3 (fLst faNil))
    (sSeq (sFrz [1] (sFor (itTake (fVar 1)) (tgN 4) [4] longB))
    (sFrz [3] (sAsg 1 (fVar 3)))))
def isL (s : Sv) (l : List PyData) : Prop := s = .cell l ∨ s = .d (.list l)
theorem seq_nx2 {s rest : FS} {e e1 : Ev} {n n1 : Nat} {z : Option (Fl × Ev × Nat)} (h : s e n = some (.nx, e1, n1)) (k : rest e1 n1 = z) : sSeq s rest e n = z := by
  simp only [sSeq, h, k]
theorem for_e {it : FI} {tg : FG} {wp : List Nat} {body : FS} {e : Ev} {n n1 : Nat} {xs : List PyData} {z : Option (Fl × Ev × Nat)} (h : it e n = some (xs, n1)) (hl : xs.length ≤ big) (q : forL tg wp body xs e n1 = z) : sFor it tg wp body e n = z := by
  simp only [sFor, h, if_pos hl, q]
theorem l_step (x0 : Option Sv) (n : Nat) (es : List PyData) (ws : List (List Nat)) (s : Sv) (hs : isL s (ws.map wD)) (hw : ∀ w ∈ ws, w.length ≤ 100) (he : es.length ≤ 100) (hl : ws.length ≤ 1000) (hg : ws.length * es.length ≤ 1000) :
    worldB [x0, some s, some (.d (.tuple es)), none, none, none] n = some (.nx, [x0, some (.d (.list ((grow es.length ws).map wD))), some (.d (.tuple es)), some (.d (.list ((grow es.length ws).map wD))), none, none], n) := by
  have hfor := l_for x0 (some (.d (.list (ws.map wD)))) n es he ws [] hw (by rw [List.length_nil]; omega)
  rw [List.nil_append] at hfor
  have hb : (ws.map wD).length ≤ big := by
    rw [List.length_map]
    show _ ≤ 100000
    omega
  have hfrz : frzE [x0, some s, some (.d (.tuple es)), some (.cell []), none, none] [1] = [x0, some (.d (.list (ws.map wD))), some (.d (.tuple es)), some (.cell []), none, none] := by
    rcases hs with rfl | rfl <;> rfl
  have h1 : sFrz [1] (sFor (itTake (fVar 1)) (tgN 4) [4] longB) [x0, some s, some (.d (.tuple es)), some (.cell []), none, none] n = some (.nx, [x0, some (.d (.list (ws.map wD))), some (.d (.tuple es)), some (.cell ((grow es.length ws).map wD)), none, none], n) := by
    unfold sFrz
    rw [hfrz]
    exact for_e (xs := ws.map wD) rfl hb hfor
  exact seq_nx2 (e1 := [x0, some s, some (.d (.tuple es)), some (.cell []), none, none]) rfl (seq_nx2 h1 rfl)
theorem l_loop (x0 : Option Sv) (n : Nat) : ∀ (ts : List PyData) (ws : List (List Nat)) (s : Sv), isL s (ws.map wD) → (∀ t ∈ ts, okT t) → (∀ w ∈ ws, w.length + ts.length ≤ 100) → ws.length * 3 ^ ts.length ≤ 1000 →
    ∃ s', forL (tgN 2) [2, 3, 4] worldB ts [x0, some s, none, none, none, none] n = some (.nx, [x0, some s', none, none, none, none], n) ∧ isL s' ((ts.foldl (fun ws t => grow (seqD t).length ws) ws).map wD) ∧ (ts ≠ [] → s' = .d (.list ((ts.foldl (fun ws t => grow (seqD t).length ws) ws).map wD)))
  | [], ws, s, hs, _, _, _ => ⟨s, rfl, hs, fun h => absurd rfl h⟩
  | t :: ts, ws, s, hs, ht, hw, hl => by
    obtain ⟨es, rfl, e1, e3, _⟩ := ht t List.mem_cons_self
    rw [List.length_cons, Nat.pow_succ] at hl
    have hp : 0 < 3 ^ ts.length := Nat.pow_pos (by omega)
    have hl3 : ws.length * 3 * 3 ^ ts.length ≤ 1000 := by
      rw [Nat.mul_assoc, Nat.mul_comm 3]
      exact hl
    have hl1 : ws.length * 3 ≤ 1000 := Nat.le_trans (Nat.le_mul_of_pos_right _ hp) hl3
    have hge : ws.length * es.length ≤ ws.length * 3 := Nat.mul_le_mul_left _ e3
    obtain ⟨s', q, h1, h2⟩ := l_loop x0 n ts (grow es.length ws) (.d (.list ((grow es.length ws).map wD))) (.inr rfl) (fun x hx => ht x (List.mem_cons_of_mem _ hx)) (fun v hv => by
      obtain ⟨w, h1, i, _, rfl⟩ := grow_mem.mp hv
      have := hw w h1
      rw [List.length_cons] at this
      rw [List.length_append, List.length_singleton]
      omega) (by
      rw [grow_len]
      exact Nat.le_trans (Nat.mul_le_mul_right _ hge) hl3)
    have hst := l_step x0 n es ws s hs (fun w h1 => by
      have := hw w h1
      omega) (by omega) (by omega) (by omega)
    refine ⟨s', forL_c (e1 := [x0, some s, some (.d (.tuple es)), none, none, none]) rfl hst rfl q, h1, fun _ => ?_⟩
    cases ts with
    | nil =>
      have : s' = .d (.list ((grow es.length ws).map wD)) := by
        have q' : some ((.nx : Fl), [x0, some (Sv.d (.list ((grow es.length ws).map wD))), none, none, none, none], n) = some (.nx, [x0, some s', none, none, none, none], n) := q
        injection q' with q'
        injection q' with _ q'
        injection q' with q' _
        injection q' with _ q'
        injection q' with q' _
        injection q' with q'
        exact q'.symm
      exact this
    | cons a b => exact h2 (by intro h; cases h)
/-! lists of worlds as data -/
theorem lay_W : ∀ ws : List (List Nat), PyData.canLayAll0 (ws.map wD) = true ∧ PyData.depthAll (ws.map wD) ≤ 2 ∧ PySem.W.alikeAll (ws.map wD) (ws.map wD) = true
  | [] => ⟨rfl, by simp [PyData.depthAll], rfl⟩
  | w :: ws => by
    obtain ⟨a, b, c⟩ := lay_W ws
    have e : wD w = .tuple ((w.map fun (i : Nat) => (i : Int)).map PyData.int) := by
      unfold wD
      rw [List.map_map]
      rfl
    have al : ∀ ns : List Int, PySem.W.alikeAll (ns.map PyData.int) (ns.map PyData.int) = true := fun ns => by
      induction ns with
      | nil => rfl
      | cons x ns ih =>
        rw [List.map_cons, PySem.W.alikeAll, ih]
        rfl
    rw [List.map_cons, e]
    refine ⟨?_, ?_, ?_⟩
    · rw [PyData.canLayAll0, a, PyData.canLay0, lay_ints]
      rfl
    · rw [PyData.depthAll, PyData.depth, dep_ints]
      omega
    · rw [PySem.W.alikeAll, c, PySem.W.alike, al]
      rfl
theorem eq_W (neg : Bool) (ws : List (List Nat)) : eqD neg (.list (ws.map wD)) (.list (ws.map wD)) = some (.bool (true != neg)) := by
  obtain ⟨a, b, c⟩ := lay_W ws
  have hs : SeqAt.shaped (.list (ws.map wD)) = true := shaped_of (by rw [PyData.canLay0]; exact a) (by rw [PyData.depth]; omega)
  show (if SeqAt.shaped (.list (ws.map wD)) = true ∧ SeqAt.shaped (.list (ws.map wD)) = true then some (PyData.bool (PyData.eqv (.list (ws.map wD)) (.list (ws.map wD)) != neg)) else none) = _
  rw [if_pos ⟨hs, hs⟩, PySem.W.eqv_refl_alike _ (by rw [PySem.W.alike]; exact c)]
end Sb

namespace Sb
open PySem PySem.Spec PyProof.Rows L2
variable {r : PyData} {ts ss ms : List PyData}
theorem fold_len : ∀ (ts : List PyData) (ws : List (List Nat)), (ts.foldl (fun ws t => grow (seqD t).length ws) ws).length = ts.foldl (fun m t => m * (seqD t).length) ws.length
  | [], _ => rfl
  | t :: ts, ws => by
    rw [List.foldl_cons, fold_len ts, grow_len, List.foldl_cons]
theorem fold_le : ∀ (ts : List PyData) (ws : List (List Nat)), (∀ t ∈ ts, okT t) → (ts.foldl (fun ws t => grow (seqD t).length ws) ws).length ≤ ws.length * 3 ^ ts.length
  | [], ws, _ => by
    show ws.length ≤ ws.length * 1
    omega
  | t :: ts, ws, h => by
    obtain ⟨es, rfl, _, e3, _⟩ := h t List.mem_cons_self
    have ih := fold_le ts (grow es.length ws) fun x hx => h x (List.mem_cons_of_mem _ hx)
    rw [grow_len] at ih
    rw [List.foldl_cons, List.length_cons, Nat.pow_succ]
    refine Nat.le_trans ih ?_
    rw [Nat.mul_comm (3 ^ ts.length), ← Nat.mul_assoc]
    exact Nat.mul_le_mul_right _ (Nat.mul_le_mul_left _ e3)
theorem fold_all : ∀ (ts : List PyData) (ws : List (List Nat)) (L : Nat), (∀ w ∈ ws, w.length = L) → ∀ w ∈ ts.foldl (fun ws t => grow (seqD t).length ws) ws, w.length = L + ts.length
  | [], _, _, h, w, hw => h w hw
  | t :: ts, ws, L, h, w, hw => by
    have := fold_all ts (grow (seqD t).length ws) (L + 1) (fun v hv => by
      obtain ⟨u, h1, i, _, rfl⟩ := grow_mem.mp hv
      rw [List.length_append, List.length_singleton, h u h1]) w hw
    rw [this, List.length_cons]
    omega
theorem alike_W : ∀ a b : List Nat, a.length = b.length → PySem.W.alikeAll (a.map fun (i : Nat) => PyData.int (i : Int)) (b.map fun (i : Nat) => PyData.int (i : Int)) = true
  | [], [], _ => rfl
  | [], _ :: _, h => by cases h
  | _ :: _, [], h => by cases h
  | i :: a, j :: b, h => by
    rw [List.map_cons, List.map_cons, PySem.W.alikeAll, alike_W a b (by simpa using h)]
    rfl
theorem sortOk_W {ws : List (List Nat)} {L : Nat} (hL : 1 ≤ L) (h : ∀ w ∈ ws, w.length = L) (hl : ws.length ≤ 1000) : sortOk (ws.map wD) = true := by
  unfold sortOk
  have hb : (ws.map wD).length ≤ big := by
    rw [List.length_map]
    show _ ≤ 100000
    omega
  simp only [Bool.and_eq_true, List.all_eq_true, Bool.or_eq_true, decide_eq_true_eq]
  refine ⟨⟨⟨fun a ha b hb => ?_, .inl fun a ha => ?_⟩, fun a ha => ?_⟩, hb⟩
  · obtain ⟨u, hu, rfl⟩ := List.mem_map.mp ha
    obtain ⟨v, hv, rfl⟩ := List.mem_map.mp hb
    unfold wD
    rw [PySem.W.alike]
    exact alike_W u v (by rw [h u hu, h v hv])
  · obtain ⟨u, hu, rfl⟩ := List.mem_map.mp ha
    have := h u hu
    cases u with
    | nil => rw [List.length_nil] at this; omega
    | cons i u => rfl
  · obtain ⟨u, hu, rfl⟩ := List.mem_map.mp ha
    have e : wD u = .tuple ((u.map fun (i : Nat) => (i : Int)).map PyData.int) := by
      unfold wD
      rw [List.map_map]
      rfl
    rw [e, PyData.depth, dep_ints]
    omega
end Sb

namespace Sb
open PySem PySem.Spec PyProof.Rows L2
/-! ### texts of small letters -/
def lowZ (z : Str) (k : Nat) : Prop := z.length ≤ k ∧ ∀ c ∈ z.cps.toList, 97 ≤ c ∧ c ≤ 122
theorem lowZ.le {z : Str} {k k' : Nat} (h : lowZ z k) (hk : k ≤ k') : lowZ z k' := ⟨Nat.le_trans h.1 hk, h.2⟩
theorem lowZ_nil (k : Nat) : lowZ "" k := ⟨Nat.zero_le _, fun c hc => by
  have : ("" : Str).cps.toList = [] := rfl
  rw [this] at hc
  cases hc⟩
theorem lowZ_ok {z : Str} {k : Nat} (h : lowZ z k) (hk : k ≤ 100000) : PyData.strOk z = true := by
  unfold PyData.strOk
  rw [Array.all_eq_true']
  intro c hc
  have := h.2 c (Array.mem_toList_iff.mpr hc)
  simp [Nat.isValidChar]
  omega
theorem join_cps (ps : List Str) : (Txt.join "" ps).cps.toList = ps.flatMap fun p => p.cps.toList := by
  have go : ∀ (l : List Str) (a : Array Nat), (l.foldl (fun acc p => acc ++ ("" : Str).cps ++ p.cps) a).toList = a.toList ++ l.flatMap fun p => p.cps.toList := fun l => by
    induction l with
    | nil => intro a; simp
    | cons p l ih =>
      intro a
      rw [List.foldl_cons, ih, List.flatMap_cons]
      have e : ("" : Str).cps = #[] := rfl
      rw [e]
      simp
  have e : (Txt.join "" ps).cps = (ps.drop 1).foldl (fun acc p => acc ++ ("" : Str).cps ++ p.cps) (ps.headD Str.empty).cps := rfl
  rw [e, go]
  cases ps with
  | nil => rfl
  | cons p ps => simp
theorem signs_flat (cs : List Nat) : (cs.map fun c => (⟨#[c]⟩ : Str)).flatMap (fun p => p.cps.toList) = cs := by
  induction cs with
  | nil => rfl
  | cons c cs ih =>
    rw [List.map_cons, List.flatMap_cons, ih]
    rfl
theorem str_ext {x y : Str} (h : x.cps.toList = y.cps.toList) : x = y := by
  cases x
  cases y
  have := Array.toList_inj.mp h
  simp at this
  rw [this]
theorem count_zero (y : Str) (c : Nat) : (Txt.count y ⟨#[c]⟩ = 0) ↔ c ∉ y.cps.toList := by
  have h1 := StrLaws.found_one y c
  have h2 := StrLaws.found_iff y ⟨#[c]⟩
  have h3 := StrLaws.occ_head y ⟨#[c]⟩ (y.length + 1) (by omega)
  unfold Txt.count
  constructor
  · intro h hc
    rw [decide_eq_true hc] at h1
    obtain ⟨i, a, b⟩ := h2.mp h1
    rcases h3 with ⟨_, q⟩ | ⟨i, r, e, _⟩
    · exact q i ⟨a, b⟩
    · rw [e] at h
      rw [List.length_cons] at h
      omega
  · intro hc
    rw [decide_eq_false hc] at h1
    rcases h3 with ⟨e, _⟩ | ⟨i, r, e, q, _⟩
    · rw [e]
      rfl
    · have := h2.mpr ⟨i, q⟩
      rw [h1] at this
      cases this
def lessZ (x y : Str) : List Str := (signs x).filter fun s => match s.cps.toList with
  | [c] => !decide (c ∈ y.cps.toList)
  | _ => false
def mkT (o : Str) (rs : List Str) : Str :=
  if o = "join" then rs.getD 0 "" ++ rs.getD 1 ""
  else if o = "sort" then Txt.join "" (sortZ (rs.getD 0 ""))
  else if o = "turn" then revZ (rs.getD 0 "")
  else if o = "first" then Txt.slice (rs.getD 0 "") none (some 1)
  else if o = "rest" then Txt.slice (rs.getD 0 "") (some 1) none
  else if o = "less" then Txt.join "" (lessZ (rs.getD 0 "") (rs.getD 1 ""))
  else if o = "same" then (if rs.getD 0 "" = rs.getD 1 "" then "y" else "")
  else if rs.getD 0 "" = "" then rs.getD 2 "" else rs.getD 1 ""
theorem read_cases {o : Str} {k : Int} (h : lookM mREADINGS' o = some k) : (o = "join" ∧ k = 2) ∨ (o = "sort" ∧ k = 1) ∨ (o = "turn" ∧ k = 1) ∨ (o = "first" ∧ k = 1) ∨ (o = "rest" ∧ k = 1) ∨ (o = "less" ∧ k = 2) ∨ (o = "same" ∧ k = 2) ∨ (o = "pick" ∧ k = 3) := by
  unfold mREADINGS' at h
  simp only [lookM] at h
  repeat' (split at h)
  all_goals (first | (injection h with h; subst h; simp_all) | cases h)
theorem low_app {x y : Str} {k : Nat} (hx : lowZ x k) (hy : lowZ y k) : lowZ (x ++ y) (2 * k) := by
  have e : (x ++ y).cps.toList = x.cps.toList ++ y.cps.toList := by
    show (x.cps ++ y.cps).toList = _
    rw [Array.toList_append]
  refine ⟨?_, fun c hc => ?_⟩
  · show (x.cps ++ y.cps).size ≤ _
    have h1 : x.cps.size ≤ k := hx.1
    have h2 : y.cps.size ≤ k := hy.1
    rw [Array.size_append]
    omega
  · rw [e] at hc
    rcases List.mem_append.mp hc with h | h
    · exact hx.2 c h
    · exact hy.2 c h
theorem low_join {ps : List Str} {x : Str} {k : Nat} (hx : lowZ x k) (hl : ps.length ≤ (signs x).length) (h : ∀ p ∈ ps, p ∈ signs x) : lowZ (Txt.join "" ps) k := by
  have hs : ∀ p ∈ ps, ∃ c ∈ x.cps.toList, p = ⟨#[c]⟩ := fun p hp => by
    obtain ⟨c, h1, h2⟩ := List.mem_map.mp (h p hp)
    exact ⟨c, h1, h2.symm⟩
  have hlen : ∀ qs : List Str, (∀ p ∈ qs, ∃ c ∈ x.cps.toList, p = ⟨#[c]⟩) → (qs.flatMap fun p => p.cps.toList).length = qs.length := fun qs => by
    induction qs with
    | nil => intro _; rfl
    | cons q qs ih =>
      intro hq
      obtain ⟨c, _, e⟩ := hq q List.mem_cons_self
      rw [List.flatMap_cons, List.length_append, ih fun p hp => hq p (List.mem_cons_of_mem _ hp), e, List.length_cons]
      show 1 + qs.length = qs.length + 1
      omega
  refine ⟨?_, fun c hc => ?_⟩
  · show (Txt.join "" ps).cps.size ≤ k
    rw [← Array.length_toList, join_cps, hlen ps hs]
    have e : (signs x).length = x.length := by
      unfold signs
      rw [List.length_map, Array.length_toList]
      rfl
    have := hx.1
    omega
  · rw [join_cps] at hc
    obtain ⟨p, hp, hc⟩ := List.mem_flatMap.mp hc
    obtain ⟨d, hd, e⟩ := hs p hp
    rw [e] at hc
    have : c = d := by simpa using hc
    rw [this]
    exact hx.2 d hd
theorem sortZ_mem {x : Str} {p : Str} (h : p ∈ sortZ x) : p ∈ signs x := List.mem_mergeSort.mp h
theorem sortZ_len (x : Str) : (sortZ x).length = (signs x).length := List.length_mergeSort _
theorem low_slice {x : Str} {k : Nat} (hx : lowZ x k) (a b : Option Int) : lowZ (Txt.slice x a b) k := by
  unfold Txt.slice
  split
  · exact hx
  · refine ⟨?_, fun c hc => ?_⟩
    · have h1 := PySem.sliceIndices_le a b x.length
      have h2 : (List.filterMap (fun i => x.cps[i]?) (Builtin.Str.strSliceIndices a b 1 x.length)).length ≤ _ := List.length_filterMap_le _ _
      show (List.filterMap (fun i => x.cps[i]?) (Builtin.Str.strSliceIndices a b 1 x.length)).length ≤ k
      have := hx.1
      omega
    · have hc' : c ∈ List.filterMap (fun i => x.cps[i]?) (Builtin.Str.strSliceIndices a b 1 x.length) := by simpa using hc
      obtain ⟨i, _, hi⟩ := List.mem_filterMap.mp hc'
      exact hx.2 c (Array.mem_toList_iff.mpr (Array.mem_of_getElem? hi))
theorem low_rev {x : Str} {k : Nat} (hx : lowZ x k) : lowZ (revZ x) k := by
  refine ⟨Nat.le_trans (revZ_len x) hx.1, fun c hc => ?_⟩
  have hc' : c ∈ (Builtin.Str.strSliceIndices none none (-1) x.length).filterMap (x.cps[·]?) := by simpa [revZ] using hc
  obtain ⟨i, _, hi⟩ := List.mem_filterMap.mp hc'
  exact hx.2 c (Array.mem_toList_iff.mpr (Array.mem_of_getElem? hi))
theorem low_mk {o : Str} {rs : List Str} {k : Nat} (h1 : 1 ≤ k) (h : ∀ z ∈ rs, lowZ z k) : lowZ (mkT o rs) (2 * k) := by
  have g : ∀ i, lowZ (rs.getD i "") k := fun i => by
    rw [List.getD_eq_getElem?_getD]
    cases q : rs[i]? with
    | none => exact lowZ_nil k
    | some z => exact h z (List.mem_of_getElem? q)
  have k2 : k ≤ 2 * k := by omega
  have hy : lowZ "y" (2 * k) := ⟨by show 1 ≤ 2 * k; omega, fun c hc => by
    have : ("y" : Str).cps.toList = [121] := rfl
    rw [this] at hc
    have : c = 121 := by simpa using hc
    omega⟩
  unfold mkT
  split
  · exact low_app (g 0) (g 1)
  split
  · exact (low_join (g 0) (Nat.le_of_eq (sortZ_len _)) fun p hp => sortZ_mem hp).le k2
  split
  · exact (low_rev (g 0)).le k2
  split
  · exact (low_slice (g 0) _ _).le k2
  split
  · exact (low_slice (g 0) _ _).le k2
  split
  · exact (low_join (g 0) (List.length_filter_le _ _) fun p hp => (List.mem_filter.mp hp).1).le k2
  split
  · split
    · exact hy
    · exact lowZ_nil _
  split
  · exact (g 2).le k2
  · exact (g 1).le k2
end Sb

namespace Sb
open PySem PySem.Spec PyProof.Rows L2
/-! ### made_by and the law's make -/
theorem g_no {t : FT} {a rest : FS} {e n n1 v n'} (h : t e n = some (false, n1)) (k : Gives rest e n1 v n') : Gives (sSeq (sIf t a sNx) rest) e n v n' := g_seq_if h (fun z => nomatch z) fun _ => g_nx k
theorem g_yes {t : FT} {a b rest : FS} {e n n1 v n'} (h : t e n = some (true, n1)) (k : Gives (sSeq a rest) e n1 v n') : Gives (sSeq (sIf t a b) rest) e n v n' := g_seq_if h (fun _ => k) (fun z => nomatch z)
theorem g_fret {is : List Nat} {f : FE} {rest : FS} {e n x n1} (h : f (frzE e is) n = some (.d x, n1)) : Gives (sSeq (sFrz is (sRet f)) rest) e n (.d x) n1 := ⟨frzE e is, by simp [sSeq, sFrz, sRet, h, Sv.own]⟩
theorem t_eq {i : Nat} {e : Ev} {n : Nat} {o z : Str} (h : e[i]? = some (some (.d (.str o)))) : bT (fOp2 (seeB (eqD false)) (fVar i) (fC (.str z))) e n = some (decide (o = z), n) := by
  have h1 : fVar i e n = some (.d (.str o), n) := by unfold fVar; rw [h]
  exact bt (cmp_ev h1 rfl (by rw [eq_str]))
theorem t_no {i : Nat} {e : Ev} {n : Nat} {o z : Str} (h : e[i]? = some (some (.d (.str o)))) (hz : o ≠ z) : bT (fOp2 (seeB (eqD false)) (fVar i) (fC (.str z))) e n = some (false, n) := by
  rw [t_eq h, decide_eq_false hz]
theorem t_yes {i : Nat} {e : Ev} {n : Nat} {o z : Str} (h : e[i]? = some (some (.d (.str o)))) (hz : o = z) : bT (fOp2 (seeB (eqD false)) (fVar i) (fC (.str z))) e n = some (true, n) := by
  rw [t_eq h, decide_eq_true hz]
theorem cat_ev {f g : FE} {e n n1 n2} {x y : Str} (h1 : f e n = some (.d (.str x), n1)) (h2 : g e n1 = some (.d (.str y), n2)) (hl : x.length + y.length ≤ big) : fOp2 addL f g e n = some (.d (.str (x ++ y)), n2) := by
  simp only [fOp2, h1, h2, addL, seeB, Sv.see, addD]
  rw [if_pos hl]
theorem sl_ev {f : FE} {a b : FO} {e n} {x : Str} {lo hi : Option Int} (h1 : f e n = some (.d (.str x), n)) (h2 : a e n = some (lo, n)) (h3 : b e n = some (hi, n)) (hl : x.length ≤ big) : fSl f a b e n = some (.d (.str (Txt.slice x lo hi)), n) := by
  simp only [fSl, h1, Sv.see, h2, h3, slD]
  rw [if_pos hl]
theorem rev_ev {f : FE} {e n} {x : Str} (h1 : f e n = some (.d (.str x), n)) (hl : x.length ≤ big) : fBackZ f e n = some (.d (.str (revZ x)), n) := by
  simp only [fBackZ, h1]
  rw [if_pos hl]
theorem strsD_map : ∀ ys : List Str, strsD (ys.map PyData.str) = some ys
  | [] => rfl
  | y :: ys => by
    rw [List.map_cons, strsD, strsD_map ys]
theorem sum_ones : ∀ ps : List Str, (∀ p ∈ ps, p.length = 1) → (ps.map fun (p : Str) => p.length).sum = ps.length
  | [], _ => rfl
  | p :: ps, h => by
    rw [List.map_cons, List.sum_cons, sum_ones ps fun q hq => h q (List.mem_cons_of_mem _ hq), h p List.mem_cons_self, List.length_cons]
    omega
theorem join_ev {f : FE} {e n} {ps : List Str} (h : f e n = some (.cell (ps.map PyData.str), n)) (h1 : ∀ p ∈ ps, p.length = 1) (hl : ps.length ≤ big) : fMt "str" joinG (fC (.str "")) (faCons f faNil) e n = some (.d (.str (Txt.join "" ps)), n) := by
  have hc : fC (.str "") e n = some (.d (.str ""), n) := rfl
  have ht : tyS "str" (.d (.str "")) = true := rfl
  have ha : faCons f faNil e n = some ([.d (.list (ps.map PyData.str))], n) := by
    simp only [faCons, h, faNil, Sv.arg]
  have hj : joinG (.d (.str "")) [.d (.list (ps.map PyData.str))] = some (.d (.str (Txt.join "" ps))) := by
    show (match strsD (ps.map PyData.str) with
      | some ys => if (ys.map fun (p : Str) => p.length).sum + ys.length * ("" : Str).length ≤ big then some (Sv.d (.str (Txt.join "" ys))) else none
      | none => none) = _
    rw [strsD_map]
    dsimp only
    rw [if_pos]
    rw [sum_ones ps h1]
    show ps.length + ps.length * 0 ≤ big
    omega
  simp only [fMt, hc, ht, if_true, ha, hj]
theorem signs_one {x p : Str} (h : p ∈ signs x) : p.length = 1 := by
  obtain ⟨c, _, rfl⟩ := List.mem_map.mp h
  rfl
theorem signs_len (x : Str) : (signs x).length = x.length := by
  unfold signs
  rw [List.length_map, Array.length_toList]
  rfl
theorem sort_ev {f : FE} {e n} {x : Str} (h : f e n = some (.d (.str x), n)) (hl : x.length ≤ big) : fBi (see1 sortG) (faCons f faNil) e n = some (.cell ((sortZ x).map PyData.str), n) := by
  have ha : faCons f faNil e n = some ([.d (.str x)], n) := by simp only [faCons, h, faNil, Sv.arg]
  have hg : see1 sortG [.d (.str x)] = some (.cell ((sortZ x).map PyData.str)) := by
    show (if x.length ≤ big then some (Sv.cell ((sortZ x).map PyData.str)) else none) = _
    rw [if_pos hl]
  simp only [fBi, ha, hg]
theorem sorted_ev {f : FE} {e n} {x : Str} (h : f e n = some (.d (.str x), n)) (hl : x.length ≤ big) : fMt "str" joinG (fC (.str "")) (faCons (fBi (see1 sortG) (faCons f faNil)) faNil) e n = some (.d (.str (Txt.join "" (sortZ x))), n) :=
  join_ev (sort_ev h hl) (fun p hp => signs_one (sortZ_mem hp)) (by rw [sortZ_len, signs_len]; exact hl)
theorem less_loop {t : FT} {e : Ev} {n : Nat} {x y : Str} (hi : e[2]? = some none) (ht : ∀ c, t (e.set 2 (some (.d (.str ⟨#[c]⟩)))) n = some (!decide (c ∈ y.cps.toList), n)) : ∀ cs : List Nat, lcL (tgN 2) [2] t (fVar 2) ((cs.map fun c => (⟨#[c]⟩ : Str)).map PyData.str) e n = some (((cs.map fun c => (⟨#[c]⟩ : Str)).filter fun s => match s.cps.toList with
  | [c] => !decide (c ∈ y.cps.toList)
  | _ => false).map PyData.str, n)
  | [] => rfl
  | c :: cs => by
    have ih := less_loop (x := x) hi ht cs
    have hl : 2 < e.length := (List.getElem?_eq_some_iff.mp hi).1
    have hw : wipeE e [2] = e := by
      show e.set 2 none = e
      refine List.ext_getElem? fun j => ?_
      by_cases hj : 2 = j
      · subst hj
        rw [List.getElem?_set_self hl, hi]
      · rw [List.getElem?_set_ne hj]
    have h2 : fVar 2 (e.set 2 (some (.d (.str ⟨#[c]⟩)))) n = some (.d (.str ⟨#[c]⟩), n) := by
      unfold fVar
      rw [List.getElem?_set_self hl]
    rw [List.map_cons, List.map_cons, List.filter_cons]
    cases hc : decide (c ∈ y.cps.toList) with
    | true =>
      have h1 := ht c
      rw [hc] at h1
      have e2 : lcL (tgN 2) [2] t (fVar 2) (PyData.str ⟨#[c]⟩ :: (cs.map fun c => (⟨#[c]⟩ : Str)).map PyData.str) e n = lcL (tgN 2) [2] t (fVar 2) ((cs.map fun c => (⟨#[c]⟩ : Str)).map PyData.str) e n := by
        simp only [lcL, hw, tgN, h1]
        rfl
      rw [e2, ih, if_neg]
      show ¬ ((!decide (c ∈ y.cps.toList)) = true)
      rw [hc]
      exact Bool.false_ne_true
    | false =>
      have h1 := ht c
      rw [hc] at h1
      rw [if_pos (by show (!decide (c ∈ y.cps.toList)) = true; rw [hc]; rfl), List.map_cons]
      refine lcL_cons ?_ h1 h2 ih
      rw [hw]
      rfl
theorem bi_evQ {g : List Sv → Option Sv} {fa : FA} {e n n1 as r} (h : fa e n = some (as, n1)) (hg : g as = some r) : fBi g fa e n = some (r, n1) := by
  simp only [fBi, h, hg]
theorem in_fr {o : Str} {b : Bool} (h1 : SeqAt.shaped (.str o) = true) (h3 : ([PyData.str "first", PyData.str "rest"].any fun z => PyData.eqv z (.str o)) = b) {e : Ev} {n : Nat} (h : e[0]? = some (some (.d (.str o)))) : bT (fOp2 (seeB (inD false)) (fVar 0) (fTup (faCons (fC (.str "first")) (faCons (fC (.str "rest")) faNil)))) e n = some (b, n) := by
  have h0 : fVar 0 e n = some (.d (.str o), n) := by unfold fVar; rw [h]
  have h2 : fTup (faCons (fC (.str "first")) (faCons (fC (.str "rest")) faNil)) e n = some (.d (.tuple [.str "first", .str "rest"]), n) := rfl
  refine bt (cmp_ev h0 h2 ?_)
  show (if SeqAt.shaped (.str o) = true ∧ PyData.canLayAll0 [.str "first", .str "rest"] = true then some (PyData.bool (([PyData.str "first", PyData.str "rest"].any fun z => PyData.eqv z (.str o)) != false)) else none) = _
  rw [if_pos ⟨h1, by decide +kernel⟩, h3, Bool.bne_false]
theorem letters_loop (x y : Str) (n : Nat) : lcL (tgN 2) [2] (bT (fOp2 (seeB (inD true)) (fVar 2) (fVar 1))) (fVar 2) ((signs x).map PyData.str) [some (.d (.str x)), some (.d (.str y)), none] n = some ((lessZ x y).map PyData.str, n) :=
  less_loop (x := x) rfl (fun c => by
    show some (_, n) = some (_, n)
    show some (decide (c ∈ y.cps.toList) != true, n) = _
    rw [Bool.bne_true]) x.cps.toList
theorem less_one {x y p : Str} (h : p ∈ lessZ x y) : p.length = 1 := signs_one (List.mem_filter.mp h).1
theorem less_len (x y : Str) : (lessZ x y).length ≤ x.length := Nat.le_trans (List.length_filter_le _ _) (Nat.le_of_eq (signs_len x))
theorem lc_ev' {it : FI} {tg : FG} {own : List Nat} {t : FT} {f : FE} {e n n1 xs ys n2} (h : it e n = some (xs, n1)) (hl : xs.length ≤ big) (q : lcL tg own t f xs e n1 = some (ys, n2)) : fLc it tg own t f e n = some (.cell ys, n2) := by
  simp only [fLc, h, if_pos hl, q]
theorem if_evE {t : FT} {f g : FE} {e n n1 c} {r : Option (Sv × Nat)} (h : t e n = some (c, n1)) (h1 : c = true → f e n1 = r) (h2 : c = false → g e n1 = r) : fIf t f g e n = r := by
  cases c
  · simp only [fIf, h]; exact h2 rfl
  · simp only [fIf, h]; exact h1 rfl
theorem eq_txt {i : Nat} {f g : FE} {e : Ev} {n : Nat} {x y : Str} (h1 : f e n = some (.d (.str x), n)) (h2 : g e n = some (.d (.str y), n)) (neg : Bool) : bT (fOp2 (seeB (eqD neg)) f g) e n = some (decide (x = y) != neg, n) := by
  refine bt (cmp_ev h1 h2 ?_)
  rfl
end Sb

namespace Sb
open PySem PySem.Spec PyProof.Rows L2
/-! ### recipes as plain data -/
abbrev Rd := Str × Nat
abbrev Stp := Str × List Rd
def natD (i : Nat) : PyData := .int (i : Int)
def encR (r : Rd) : PyData := .tuple [.str r.1, natD r.2]
def encS (s : Stp) : PyData := .tuple [.str s.1, .tuple (s.2.map encR)]
def encT (t : List Str) : PyData := .tuple (t.map PyData.str)
structure Rc where
  ts : List (List Str)
  ss : List Stp
  ms : List Nat
def Rc.enc (R : Rc) : PyData := .tuple [.tuple (R.ts.map encT), .tuple (R.ss.map encS), .tuple (R.ms.map natD)]
def okRd (m j : Nat) (r : Rd) : Prop := (r.1 = "thing" ∧ r.2 < m) ∨ (r.1 = "step" ∧ r.2 < j)
def okSt (m j : Nat) (s : Stp) : Prop := lookM mREADINGS' s.1 = some (s.2.length : Int) ∧ ∀ r ∈ s.2, okRd m j r
def okTh (t : List Str) : Prop := 1 ≤ t.length ∧ t.length ≤ 4 ∧ ∀ z ∈ t, lowZ z 4
structure Rc.Ok (R : Rc) : Prop where
  t1 : 1 ≤ R.ts.length
  t5 : R.ts.length ≤ 5
  th : ∀ t ∈ R.ts, okTh t
  s1 : 1 ≤ R.ss.length
  s8 : R.ss.length ≤ 8
  st : ∀ (j : Nat) (s : Stp), R.ss[j]? = some s → okSt R.ts.length j s
  m1 : 1 ≤ R.ms.length
  m3 : R.ms.length ≤ 3
  md : ∀ m ∈ R.ms, m < R.ss.length
  rd : recipeD R.enc = true
  sm : smD R.enc = true
theorem list_enc {A : Type} {f : A → PyData} {P : A → Prop} : ∀ ds : List PyData, (∀ d ∈ ds, ∃ x, d = f x ∧ P x) → ∃ xs : List A, ds = xs.map f ∧ ∀ x ∈ xs, P x
  | [], _ => ⟨[], rfl, fun _ h => nomatch h⟩
  | d :: ds, h => by
    obtain ⟨x, rfl, hx⟩ := h d List.mem_cons_self
    obtain ⟨xs, rfl, hxs⟩ := list_enc ds fun e he => h e (List.mem_cons_of_mem _ he)
    exact ⟨x :: xs, rfl, fun y hy => by
      rcases List.mem_cons.mp hy with rfl | hy
      · exact hx
      · exact hxs y hy⟩
theorem list_encI {A : Type} {f : A → PyData} {P : Nat → A → Prop} : ∀ (ds : List PyData) (k : Nat), (∀ (j : Nat) (d : PyData), ds[j]? = some d → ∃ x, d = f x ∧ P (k + j) x) → ∃ xs : List A, ds = xs.map f ∧ ∀ (j : Nat) (x : A), xs[j]? = some x → P (k + j) x
  | [], k, _ => ⟨[], rfl, fun _ _ h => by simp at h⟩
  | d :: ds, k, h => by
    obtain ⟨x, rfl, hx⟩ := h 0 d rfl
    obtain ⟨xs, rfl, hxs⟩ := list_encI (P := P) ds (k + 1) fun j e he => by
      have := h (j + 1) e (by simpa using he)
      rw [show k + (j + 1) = k + 1 + j by omega] at this
      exact this
    refine ⟨x :: xs, rfl, fun j y hy => ?_⟩
    cases j with
    | zero =>
      cases hy
      exact hx
    | succ j =>
      have := hxs j y (by simpa using hy)
      rw [show k + 1 + j = k + (j + 1) by omega] at this
      exact this
theorem text_low {d : PyData} (h : textD d 4 = true) : ∃ z, d = .str z ∧ lowZ z 4 := by
  cases d with
  | str z =>
    have h' : (decide ((z.length : Int) ≤ 4) && z.cps.toList.all letterOk) = true := h
    rw [Bool.and_eq_true, decide_eq_true_eq, List.all_eq_true] at h'
    refine ⟨z, rfl, by omega, fun c hc => ?_⟩
    have := h'.2 c hc
    unfold letterOk at this
    rw [Bool.and_eq_true, decide_eq_true_eq, decide_eq_true_eq] at this
    exact this
  | _ => cases h
theorem RecOk.plain {r : PyData} {ts ss ms : List PyData} (h : RecOk r ts ss ms) : ∃ R : Rc, r = R.enc ∧ R.Ok ∧ ts = R.ts.map encT ∧ ss = R.ss.map encS ∧ ms = R.ms.map natD := by
  obtain ⟨g1, g2⟩ := h.ok
  obtain ⟨rfl, t1, t3, th, s1, s5, st, md⟩ := h
  obtain ⟨xs, ex, hx⟩ := list_enc (f := encT) (P := okTh) ts fun t ht => by
    obtain ⟨es, rfl, a, b, c, _⟩ := th t ht
    have c' : (tupD (.tuple es) 1 4 && es.all (fun x => textD x 4) && ascD es) = true := c
    rw [Bool.and_eq_true, Bool.and_eq_true, List.all_eq_true] at c'
    obtain ⟨zs, rfl, hz⟩ := list_enc (f := PyData.str) (P := fun z => lowZ z 4) es fun d hd => text_low (c'.1.2 d hd)
    rw [List.length_map] at a b
    exact ⟨zs, rfl, a, by omega, hz⟩
  obtain ⟨ys, ey, hy⟩ := list_encI (f := encS) (P := okSt ts.length) ss 0 fun j d hj => by
    rw [Nat.zero_add]
    obtain ⟨o, rs, rfl, a, _, _, b⟩ := st j d hj
    obtain ⟨qs, rfl, hq⟩ := list_enc (f := encR) (P := okRd ts.length j) rs fun x hx => by
      obtain ⟨w, i, rfl, q⟩ := b x hx
      exact ⟨(w, i), rfl, q⟩
    exact ⟨(o, qs), rfl, by rw [List.length_map] at a; exact a, hq⟩
  obtain ⟨zs, ez, hz, hl⟩ : ∃ zs : List Nat, ms = zs.map natD ∧ (∀ m ∈ zs, m < ss.length) ∧ 1 ≤ zs.length ∧ zs.length ≤ 3 := by
    rcases md with rfl | ⟨j, hj, rfl⟩
    · exact ⟨[ss.length - 1], rfl, fun m hm => by rw [List.mem_singleton.mp hm]; omega, by simp, by simp⟩
    · exact ⟨[j, ss.length - 1], rfl, fun m hm => by
        simp only [List.mem_cons, List.not_mem_nil, or_false] at hm
        rcases hm with rfl | rfl <;> omega, by simp, by simp⟩
  subst ex ey ez
  refine ⟨⟨xs, ys, zs⟩, rfl, ⟨?_, ?_, hx, ?_, ?_, fun j s hj => ?_, hl.1, hl.2, ?_, g1, g2⟩, rfl, rfl, rfl⟩
  · rw [List.length_map] at t1; exact t1
  · rw [List.length_map] at t3; exact Nat.le_trans t3 (by decide)
  · rw [List.length_map] at s1; exact s1
  · rw [List.length_map] at s5; exact Nat.le_trans s5 (by decide)
  · have := hy j s hj
    rw [List.length_map, Nat.zero_add] at this
    exact this
  · rw [List.length_map] at hz; exact hz
/-! ### what is read and made -/
def rdV (ts : List (List Str)) (hid : Nat → Nat → Bool) (w : List Nat) (j : Nat) (T : List Str) (r : Rd) : Str :=
  if r.1 = "step" then T.getD r.2 "" else if hid j r.2 = true then "" else (ts.getD r.2 []).getD (w.getD r.2 0) ""
def rlV (ts : List (List Str)) (hid : Nat → Nat → Bool) (w : List Nat) (j : Nat) (T : List Str) (s : Stp) : List Str := s.2.map (rdV ts hid w j T)
def stV (ts : List (List Str)) (hid : Nat → Nat → Bool) (w : List Nat) (j : Nat) (T : List Str) (s : Stp) : Str := mkT s.1 (rlV ts hid w j T s)
def txL (ts : List (List Str)) (hid : Nat → Nat → Bool) (w : List Nat) : Nat → List Str → List Stp → List Str
  | _, T, [] => T
  | j, T, s :: ss => txL ts hid w (j + 1) (T ++ [stV ts hid w j T s]) ss
/-- the readings of all steps -/
def rsL (ts : List (List Str)) (hid : Nat → Nat → Bool) (w : List Nat) : Nat → List Str → List Stp → List (List Str)
  | _, _, [] => []
  | j, T, s :: ss => rlV ts hid w j T s :: rsL ts hid w (j + 1) (T ++ [stV ts hid w j T s]) ss
def hidV (al : List PyData) (j t : Nat) : Bool := al.any fun z => PyData.eqv z (.tuple [.str "hide", natD j, natD t])
def okW (ts : List (List Str)) (w : List Nat) : Prop := w.length = ts.length ∧ ∀ (i : Nat) (t : List Str), ts[i]? = some t → w.getD i 0 < t.length
def lowL (T : List Str) (k : Nat) : Prop := ∀ z ∈ T, lowZ z k
section
variable {ts : List (List Str)} {hid : Nat → Nat → Bool} {w : List Nat} {j : Nat} {T : List Str}
theorem getD_mem {A : Type} {P : A → Prop} {xs : List A} {i : Nat} {d : A} (h : ∀ x ∈ xs, P x) (hd : P d) : P (xs.getD i d) := by
  rw [List.getD_eq_getElem?_getD]
  cases q : xs[i]? with
  | none => exact hd
  | some x => exact h x (List.mem_of_getElem? q)
theorem low_rdV {k : Nat} (hk : 4 ≤ k) (ht : ∀ t ∈ ts, okTh t) (hT : lowL T k) (r : Rd) : lowZ (rdV ts hid w j T r) k := by
  unfold rdV
  split
  · exact getD_mem hT (lowZ_nil k)
  split
  · exact lowZ_nil k
  · refine getD_mem (P := fun z => lowZ z k) (fun z hz => ?_) (lowZ_nil k)
    have : ∀ z ∈ ts.getD r.2 [], lowZ z 4 := getD_mem (P := fun t => ∀ z ∈ t, lowZ z 4) (fun t h => (ht t h).2.2) (fun z hz => nomatch hz)
    exact (this z hz).le hk
theorem low_rlV {k : Nat} (hk : 4 ≤ k) (ht : ∀ t ∈ ts, okTh t) (hT : lowL T k) (s : Stp) : lowL (rlV ts hid w j T s) k := fun z hz => by
  obtain ⟨r, _, rfl⟩ := List.mem_map.mp hz
  exact low_rdV hk ht hT r
theorem low_stV {k : Nat} (hk : 4 ≤ k) (ht : ∀ t ∈ ts, okTh t) (hT : lowL T k) (s : Stp) : lowZ (stV ts hid w j T s) (2 * k) := low_mk (by omega) (low_rlV hk ht hT s)
theorem low_snoc {k : Nat} {z : Str} (hT : lowL T k) (hz : lowZ z (2 * k)) : lowL (T ++ [z]) (2 * k) := fun y hy => by
  rcases List.mem_append.mp hy with h | h
  · exact (hT y h).le (by omega)
  · rw [List.mem_singleton.mp h]
    exact hz
theorem low_txL (ht : ∀ t ∈ ts, okTh t) : ∀ (ss : List Stp) (j k : Nat) (T : List Str), 4 ≤ k → lowL T k → lowL (txL ts hid w j T ss) (2 ^ ss.length * k) ∧ (txL ts hid w j T ss).length = T.length + ss.length
  | [], j, k, T, _, hT => by
    rw [List.length_nil, Nat.pow_zero, Nat.one_mul]
    exact ⟨hT, rfl⟩
  | s :: ss, j, k, T, hk, hT => by
    obtain ⟨h1, h2⟩ := low_txL ht ss (j + 1) (2 * k) (T ++ [stV ts hid w j T s]) (by omega) (low_snoc hT (low_stV hk ht hT s))
    rw [List.length_cons, Nat.pow_succ, Nat.mul_assoc]
    refine ⟨h1, ?_⟩
    show (txL ts hid w (j + 1) (T ++ [stV ts hid w j T s]) ss).length = _
    rw [h2, List.length_append, List.length_singleton]
    omega
end
end Sb

namespace Sb
open PySem PySem.Spec PyProof.Rows L2
theorem len1 {A : Type} {xs : List A} (h : xs.length = 1) : ∃ x, xs = [x] := List.length_eq_one_iff.mp h
theorem len2 {A : Type} {xs : List A} (h : xs.length = 2) : ∃ x y, xs = [x, y] := by
  match xs, h with
  | [x, y], _ => exact ⟨x, y, rfl⟩
theorem len3 {A : Type} {xs : List A} (h : xs.length = 3) : ∃ x y z, xs = [x, y, z] := by
  match xs, h with
  | [x, y, z], _ => exact ⟨x, y, z, rfl⟩
/-! ### text_read -/
theorem ix_nat {f g : FE} {e : Ev} {n : Nat} {s : Sv} {d x : PyData} {ds : List PyData} {i : Nat} (h1 : f e n = some (s, n)) (hs : s.see = some d) (hd : d = .tuple ds ∨ d = .list ds) (h2 : g e n = some (.d (natD i), n)) (hx : ds[i]? = some x) : fOp2 (seeB ixD) f g e n = some (.d x, n) :=
  cmp_see (sa := s) (sb := .d (natD i)) (a := d) (b := natD i) h1 hs h2 rfl (int_ix hd hx)
theorem getD_get {A : Type} {xs : List A} {i : Nat} {d : A} (h : i < xs.length) : xs[i]? = some (xs.getD i d) := by
  rw [List.getD_eq_getElem?_getD, List.getElem?_eq_getElem h]
  rfl
theorem shaped_hide (i j : Nat) : SeqAt.shaped (.tuple [.str "hide", natD i, natD j]) = true := by
  have e : PyData.strOk "hide" = true := by decide +kernel
  simp [SeqAt.shaped, PyData.canLay0, PyData.canLayAll0, PyData.depth, PyData.depthAll, e, natD]
theorem in_hide {al : List PyData} (h : PyData.canLayAll0 al = true) (i j : Nat) : inD false (.tuple [.str "hide", natD i, natD j]) (.tuple al) = some (.bool (hidV al i j)) := by
  show (if SeqAt.shaped (.tuple [.str "hide", natD i, natD j]) = true ∧ PyData.canLayAll0 al = true then some (PyData.bool ((al.any fun z => PyData.eqv z (.tuple [.str "hide", natD i, natD j])) != false)) else none) = _
  rw [if_pos ⟨shaped_hide i j, h⟩, Bool.bne_false]
  rfl
theorem tup3e {f g h : FE} {e n a b c} (h1 : f e n = some (.d a, n)) (h2 : g e n = some (.d b, n)) (h3 : h e n = some (.d c, n)) : fTup (faCons f (faCons g (faCons h faNil))) e n = some (.d (.tuple [a, b, c]), n) := by
  simp [fTup, faCons, h1, h2, h3, faNil, Sv.arg, keepAll]
  decide
section
variable {R : Rc} {al : List PyData} {w : List Nat}
theorem ts_get (R : Rc) {i : Nat} (hi : i < R.ts.length) : (R.ts.map encT)[i]? = some (encT (R.ts.getD i [])) := by
  rw [List.getElem?_map, getD_get (d := []) hi]
  rfl
theorem w_get {w : List Nat} {i : Nat} (hi : i < w.length) : (w.map fun (i : Nat) => PyData.int (i : Int))[i]? = some (natD (w.getD i 0)) := by
  rw [List.getElem?_map, getD_get (d := 0) hi]
  rfl
theorem th_get {t : List Str} {i : Nat} (hi : i < t.length) : (t.map PyData.str)[i]? = some (.str (t.getD i "")) := by
  rw [List.getElem?_map, getD_get (d := ("" : Str)) hi]
  rfl
theorem thing_ev (hw : okW R.ts w) {i : Nat} (hi : i < R.ts.length) {e : Ev} {n : Nat} {a b : Nat} (k : Nat) (h0 : e[a]? = some (some (.d R.enc))) (h2 : e[b]? = some (some (.d (wD w)))) (hk : e[k]? = some (some (.d (natD i)))) :
    fOp2 (seeB ixD) (fOp2 (seeB ixD) (fOp2 (seeB ixD) (fVar a) (fC (.int 0))) (fVar k)) (fOp2 (seeB ixD) (fVar b) (fVar k)) e n = some (.d (.str ((R.ts.getD i []).getD (w.getD i 0) "")), n) := by
  have v0 : fVar a e n = some (.d R.enc, n) := by unfold fVar; rw [h0]
  have v2 : fVar b e n = some (.d (wD w), n) := by unfold fVar; rw [h2]
  have vk : fVar k e n = some (.d (natD i), n) := by unfold fVar; rw [hk]
  have q0 : fOp2 (seeB ixD) (fVar a) (fC (.int 0)) e n = some (.d (.tuple (R.ts.map encT)), n) := cmp_see v0 rfl rfl rfl rfl
  have q1 := ix_nat (f := fOp2 (seeB ixD) (fVar a) (fC (.int 0))) (g := fVar k) q0 rfl (.inl rfl) vk (ts_get R hi)
  have q2 := ix_nat (f := fVar b) (g := fVar k) v2 rfl (.inl rfl) vk (w_get (w := w) (i := i) (by rw [hw.1]; exact hi))
  have hlt : w.getD i 0 < (R.ts.getD i []).length := hw.2 i _ (getD_get (d := []) hi)
  exact ix_nat q1 rfl (.inl rfl) q2 (th_get hlt)
end
end Sb

namespace Sb
open PySem PySem.Spec PyProof.Rows L2
/-! ### all_texts, outcome_left -/
section
variable {R : Rc} {al : List PyData} {w : List Nat}
def atE (R : Rc) (al : List PyData) (w : List Nat) (T : List Str) (a b c d x : Option Sv) : Ev := [some (.d R.enc), some (.d (.tuple al)), some (.d (wD w)), some (.cell (T.map PyData.str)), a, b, c, d, x]
theorem set_evQ {i : Nat} {f : FE} {rest : FS} {e n n1} {sv : Sv} {z : Option (Fl × Ev × Nat)} (h : f e n = some (sv, n1)) (ho : sv.own = true) (k : rest (e.set i (some sv)) n1 = z) : sSeq (sAsg i f) rest e n = z := by
  simp only [sSeq, sAsg, h, ho, if_true, k]
theorem len_big {A : Type} {xs : List A} (h : xs.length ≤ 1000) : xs.length ≤ big := by
  show _ ≤ 100000
  omega
theorem len_bigL {A : Type} {xs : List A} (h : xs.length ≤ 1000) : xs.length < big := by
  show _ < 100000
  omega
theorem read_le {o : Str} {k : Int} (h : lookM mREADINGS' o = some k) : k ≤ 3 := by
  rcases read_cases h with ⟨_, h⟩ | ⟨_, h⟩ | ⟨_, h⟩ | ⟨_, h⟩ | ⟨_, h⟩ | ⟨_, h⟩ | ⟨_, h⟩ | ⟨_, h⟩ <;> omega
def txV (R : Rc) (al : List PyData) (w : List Nat) : List Str := txL R.ts (hidV al) w 0 [] R.ss
def outV (R : Rc) (al : List PyData) (w : List Nat) : List Str := R.ms.map fun m => (txV R al w).getD m ""
theorem g_runS {it : FI} {tg : FG} {wp : List Nat} {body rest : FS} {e e1 : Ev} {n n1 n2 : Nat} {xs : List PyData} {v n'} (hit : it e n = some (xs, n1)) (hl : xs.length ≤ big) (h : forL tg wp body xs e n1 = some (.nx, e1, n2)) (k : Gives rest e1 n2 v n') : Gives (sSeq (sFor it tg wp body) rest) e n v n' := g_run hit hl h k
theorem pow8 {a : Nat} (h : a ≤ 8) : 2 ^ a * 4 ≤ 40000 := Nat.le_trans (Nat.mul_le_mul_right 4 (Nat.pow_le_pow_right (by omega) h)) (by decide)
theorem txV_len (hR : R.Ok) : (txV R al w).length = R.ss.length := by
  have := (low_txL (hid := hidV al) (w := w) hR.th R.ss 0 4 [] (Nat.le_refl _) fun z hz => nomatch hz).2
  rw [List.length_nil, Nat.zero_add] at this
  exact this
theorem txV_low (hR : R.Ok) : lowL (txV R al w) 40000 := fun z hz =>
  ((low_txL (hid := hidV al) (w := w) hR.th R.ss 0 4 [] (Nat.le_refl _) fun z hz => nomatch hz).1 z hz).le (pow8 hR.s8)
theorem pick_loop {e : Ev} {i k : Nat} {T : List Str} {n : Nat} {s : Sv} {d : PyData} (h3 : fVar i (e.set k none) n = some (s, n)) (hik : i ≠ k) (hke : k < e.length) (hs : s.see = some d) (hd : d = .tuple (T.map PyData.str) ∨ d = .list (T.map PyData.str)) : ∀ ms : List Nat, (∀ m ∈ ms, m < T.length) →
    lcL (tgN k) [k] tT (fOp2 (seeB ixD) (fVar i) (fVar k)) (ms.map natD) e n = some ((ms.map fun m => T.getD m "").map PyData.str, n)
  | [], _ => rfl
  | m :: ms, h => by
    have ih := pick_loop h3 hik hke hs hd ms fun x hx => h x (List.mem_cons_of_mem _ hx)
    have hv : fVar k ((e.set k none).set k (some (.d (natD m)))) n = some (.d (natD m), n) := by
      unfold fVar
      rw [List.getElem?_set_self (by rw [List.length_set]; exact hke)]
    have hi : fVar i ((e.set k none).set k (some (.d (natD m)))) n = some (s, n) := by
      unfold fVar at h3 ⊢
      rw [List.getElem?_set_ne (Ne.symm hik)]
      exact h3
    rw [List.map_cons, List.map_cons, List.map_cons]
    exact lcL_cons (e1 := (e.set k none).set k (some (.d (natD m)))) rfl rfl (ix_nat hi hs hd hv (th_get (h m List.mem_cons_self))) ih
theorem outV_eq (hR : R.Ok) : ∀ m ∈ R.ms, m < (txV R al w).length := fun m hm => by rw [txV_len hR]; exact hR.md m hm
theorem fa1 {f : FE} {e n a n1} (h : f e n = some (a, n1)) : faCons f faNil e n = some ([a.arg], n1) := by
  simp only [faCons, h, faNil]
end
end Sb

namespace Sb
open PySem PySem.Spec PyProof.Rows L2
/-! ### the law's reads -/
section
variable {R : Rc} {al : List PyData} {w : List Nat}
def reE (R : Rc) (al : List PyData) (w : List Nat) (S : List PyData) (T : List Str) (a b c d x : Option Sv) : Ev := [some (.d R.enc), some (.d (.tuple al)), some (.d (wD w)), some (.cell S), some (.cell (T.map PyData.str)), a, b, c, d, x]
def reI : FS := (sIf (bT (fOp2 (seeB (eqD false)) (fVar 8) (fC (.str "step"))))
    (sApp 7 (fOp2 (seeB ixD) (fVar 4) (fVar 9)))
    (sApp 7 (fIf (bT (fOp2 (seeB (inD false)) (fTup (faCons (fC (.str "hide")) (faCons (fVar 5) (faCons (fVar 9) faNil)))) (fVar 1))) (fC (.str "")) (fOp2 (seeB ixD) (fOp2 (seeB ixD) (fOp2 (seeB ixD) (fVar 0) (fC (.int 0))) (fVar 9)) (fOp2 (seeB ixD) (fVar 2) (fVar 9))))))
theorem if_stT {t : FT} {a b : FS} {e n c n1} {z : Option (Fl × Ev × Nat)} (h : t e n = some (c, n1)) (h1 : c = true → a e n1 = z) (h2 : c = false → b e n1 = z) : sIf t a b e n = z := by
  cases c
  · simp only [sIf, h]; exact h2 rfl
  · simp only [sIf, h]; exact h1 rfl
theorem re_one (hw : okW R.ts w) (ha : PyData.canLayAll0 al = true) (S : List PyData) (T : List Str) (j : Nat) (hj : T.length = j) (b : Option Sv) (own : List PyData) (ho : own.length ≤ 100) (r : Rd) (hr : okRd R.ts.length j r) (n : Nat) :
    reI (reE R al w S T (some (.d (natD j))) b (some (.cell own)) (some (.d (.str r.1))) (some (.d (natD r.2)))) n = some (.nx, reE R al w S T (some (.d (natD j))) b (some (.cell (own ++ [.str (rdV R.ts (hidV al) w j T r)]))) (some (.d (.str r.1))) (some (.d (natD r.2))), n) := by
  obtain ⟨z, i⟩ := r
  rcases hr with ⟨hz, hi⟩ | ⟨hz, hi⟩
  · have hz' : z = "thing" := hz
    have hi' : i < R.ts.length := hi
    have hn : z ≠ "step" := by rw [hz']; decide +kernel
    refine if_stT (t_no rfl hn) (fun h => nomatch h) fun _ => ?_
    have hin : bT (fOp2 (seeB (inD false)) (fTup (faCons (fC (.str "hide")) (faCons (fVar 5) (faCons (fVar 9) faNil)))) (fVar 1)) (reE R al w S T (some (.d (natD j))) b (some (.cell own)) (some (.d (.str z))) (some (.d (natD i)))) n = some (hidV al j i, n) :=
      bt (cmp_ev (tup3e rfl rfl rfl) rfl (in_hide ha j i))
    refine app_ev (xs := own) (y := .str (rdV R.ts (hidV al) w j T (z, i))) (if_evE hin (fun hh => ?_) fun hh => ?_) rfl (len_bigL (by omega))
    · have e : rdV R.ts (hidV al) w j T (z, i) = "" := by
        unfold rdV
        rw [if_neg hn, if_pos hh]
      rw [e]
      rfl
    · have e : rdV R.ts (hidV al) w j T (z, i) = (R.ts.getD i []).getD (w.getD i 0) "" := by
        unfold rdV
        rw [if_neg hn, if_neg (by rw [hh]; exact Bool.false_ne_true)]
      rw [e]
      exact thing_ev hw hi' 9 rfl rfl rfl
  · have hz' : z = "step" := hz
    have hi' : i < T.length := by rw [hj]; exact hi
    have e : rdV R.ts (hidV al) w j T (z, i) = T.getD i "" := by
      unfold rdV
      rw [if_pos hz']
    rw [e]
    refine if_stT (t_yes rfl hz') (fun _ => ?_) (fun h => nomatch h)
    exact app_ev (xs := own) (ix_nat (s := .bor (T.map PyData.str)) rfl rfl (.inr rfl) rfl (th_get hi')) rfl (len_bigL (by omega))
theorem re_in (hw : okW R.ts w) (ha : PyData.canLayAll0 al = true) (S : List PyData) (T : List Str) (j : Nat) (hj : T.length = j) (b : Option Sv) (n : Nat) : ∀ (rs : List Rd) (own : List PyData), own.length + rs.length ≤ 100 → (∀ r ∈ rs, okRd R.ts.length j r) →
    forL (tgT [(tgN 8), (tgN 9)]) [8, 9] reI (rs.map encR) (reE R al w S T (some (.d (natD j))) b (some (.cell own)) none none) n = some (.nx, reE R al w S T (some (.d (natD j))) b (some (.cell (own ++ (rs.map (rdV R.ts (hidV al) w j T)).map PyData.str))) none none, n)
  | [], own, _, _ => by
    rw [List.map_nil, List.map_nil, List.map_nil, List.append_nil]
    rfl
  | r :: rs, own, hl, hr => by
    rw [List.length_cons] at hl
    have h1 := re_one hw ha S T j hj b own (by omega) r (hr r List.mem_cons_self) n
    have ih := re_in hw ha S T j hj b n rs (own ++ [.str (rdV R.ts (hidV al) w j T r)]) (by rw [List.length_append, List.length_singleton]; omega) fun x hx => hr x (List.mem_cons_of_mem _ hx)
    rw [List.append_assoc] at ih
    exact forL_c (e1 := reE R al w S T (some (.d (natD j))) b (some (.cell own)) (some (.d (.str r.1))) (some (.d (natD r.2)))) rfl h1 rfl ih
theorem seq_q {s rest : FS} {e e1 : Ev} {n n1 : Nat} {z : Option (Fl × Ev × Nat)} (h : s e n = some (.nx, e1, n1)) (k : rest e1 n1 = z) : sSeq s rest e n = z := by
  simp only [sSeq, h, k]
theorem for_q {it : FI} {tg : FG} {wp : List Nat} {body : FS} {e : Ev} {n n1 : Nat} {xs : List PyData} {z : Option (Fl × Ev × Nat)} (h : it e n = some (xs, n1)) (hl : xs.length ≤ big) (q : forL tg wp body xs e n1 = z) : sFor it tg wp body e n = z := by
  simp only [sFor, h, if_pos hl, q]
def rsV (R : Rc) (al : List PyData) (w : List Nat) : List (List Str) := rsL R.ts (hidV al) w 0 [] R.ss
end
end Sb

namespace Sb
open PySem PySem.Spec PyProof.Rows L2
/-! ### acts as plain data; worlds left; texts_in, outcome -/
abbrev Ac := Str × Nat × Nat
def encA (a : Ac) : PyData := .tuple [.str a.1, natD a.2.1, natD a.2.2]
def okA (m : Nat) (a : Ac) : Prop := (a.1 = "pin" ∧ a.2.1 < m) ∨ a.1 = "hide"
def pinOff (w : List Nat) (a : Ac) : Bool := decide (a.1 = "pin") && !decide (w.getD a.2.1 0 = a.2.2)
def leftV (A : List Ac) (w : List Nat) : Bool := A.all fun a => !pinOff w a
section
variable {R : Rc} {A : List Ac} {w : List Nat}
theorem fa3 {f g h : FE} {e n a b c} (h1 : f e n = some (a, n)) (h2 : g e n = some (b, n)) (h3 : h e n = some (c, n)) : faCons f (faCons g (faCons h faNil)) e n = some ([a.arg, b.arg, c.arg], n) := by
  simp only [faCons, h1, h2, h3, faNil]
theorem int_ne (i j : Nat) : eqD true (natD i) (natD j) = some (.bool (!decide (i = j))) := by
  show some (PyData.bool (decide ((i : Int) = (j : Int)) != true)) = _
  rw [Bool.bne_true]
  congr 2
  exact congrArg _ (decide_eq_decide.mpr ⟨fun h => by omega, fun h => by omega⟩)
theorem pin_test {m : Nat} (hw : w.length = m) {a : Ac} (ha : okA m a) {f1 f2 f3 f4 : FE} {e : Ev} {n : Nat} (h1 : f1 e n = some (.d (.str a.1), n)) (h2 : f2 e n = some (.d (wD w), n)) (h3 : f3 e n = some (.d (natD a.2.1), n)) (h4 : f4 e n = some (.d (natD a.2.2), n)) :
    tAndF (bT (fOp2 (seeB (eqD false)) f1 (fC (.str "pin")))) (bT (fOp2 (seeB (eqD true)) (fOp2 (seeB ixD) f2 f3) f4)) e n = some (pinOff w a, n) := by
  have t1 : bT (fOp2 (seeB (eqD false)) f1 (fC (.str "pin"))) e n = some (decide (a.1 = "pin"), n) := bt (cmp_ev h1 rfl (by rw [eq_str]))
  rw [and_t t1]
  unfold pinOff
  rcases ha with ⟨hp, hl⟩ | hp
  · rw [decide_eq_true hp, if_pos rfl, Bool.true_and]
    exact bt (cmp_ev (ix_nat h2 rfl (.inl rfl) h3 (w_get (w := w) (by omega))) h4 (int_ne _ _))
  · have hn : a.1 ≠ "pin" := by rw [hp]; decide +kernel
    rw [decide_eq_false hn, if_neg Bool.false_ne_true, Bool.false_and]
def ilE (A : List Ac) (w : List Nat) (a b c : Option Sv) : Ev := [some (.d (.tuple (A.map encA))), some (.d (wD w)), a, b, c]
def ilB : FS := (sIf (tAndF (bT (fOp2 (seeB (eqD false)) (fVar 2) (fC (.str "pin")))) (bT (fOp2 (seeB (eqD true)) (fOp2 (seeB ixD) (fVar 1) (fVar 3)) (fVar 4))))
    (sRet (fC (.bool false)))
    sNx)
theorem forL_rt {tg : FG} {wp : List Nat} {body : FS} {x : PyData} {xs : List PyData} {e e1 e2 : Ev} {n n2 : Nat} {v : Sv} (ht : tg x e = some e1) (hb : body e1 n = some (.rt v, e2, n2)) : forL tg wp body (x :: xs) e n = some (.rt v, e2, n2) := by
  simp only [forL, ht, hb]
theorem seq_rtQ {s rest : FS} {e e1 : Ev} {n n1 : Nat} {v : Sv} (h : s e n = some (.rt v, e1, n1)) : sSeq s rest e n = some (.rt v, e1, n1) := by
  simp only [sSeq, h]
theorem il_loop (A0 : List Ac) (hw : w.length = R.ts.length) (n : Nat) : ∀ A : List Ac, (∀ a ∈ A, okA R.ts.length a) →
    (leftV A w = true → forL (tgT [(tgN 2), (tgN 3), (tgN 4)]) [2, 3, 4] ilB (A.map encA) (ilE A0 w none none none) n = some (.nx, ilE A0 w none none none, n)) ∧
    (leftV A w = false → ∃ e', forL (tgT [(tgN 2), (tgN 3), (tgN 4)]) [2, 3, 4] ilB (A.map encA) (ilE A0 w none none none) n = some (.rt (.d (.bool false)), e', n))
  | [], _ => ⟨fun _ => rfl, fun h => nomatch h⟩
  | a :: A, hA => by
    obtain ⟨i1, i2⟩ := il_loop A0 hw n A fun x hx => hA x (List.mem_cons_of_mem _ hx)
    have ht := pin_test hw (hA a List.mem_cons_self) (f1 := fVar 2) (f2 := fVar 1) (f3 := fVar 3) (f4 := fVar 4) (e := ilE A0 w (some (.d (.str a.1))) (some (.d (natD a.2.1))) (some (.d (natD a.2.2)))) (n := n) rfl rfl rfl rfl
    have hs : leftV (a :: A) w = (!pinOff w a && leftV A w) := rfl
    rw [hs]
    cases hp : pinOff w a with
    | true =>
      rw [hp] at ht
      refine ⟨fun h => (nomatch h), fun _ => ⟨_, forL_rt (e1 := ilE A0 w (some (.d (.str a.1))) (some (.d (natD a.2.1))) (some (.d (natD a.2.2)))) rfl (if_stT ht (fun _ => rfl) fun h => nomatch h)⟩⟩
    | false =>
      rw [hp] at ht
      have hb : ilB (ilE A0 w (some (.d (.str a.1))) (some (.d (natD a.2.1))) (some (.d (natD a.2.2)))) n = some (.nx, ilE A0 w (some (.d (.str a.1))) (some (.d (natD a.2.1))) (some (.d (natD a.2.2))), n) := if_stT ht (fun h => nomatch h) fun _ => rfl
      refine ⟨fun h => ?_, fun h => ?_⟩
      · exact forL_c (e1 := ilE A0 w (some (.d (.str a.1))) (some (.d (natD a.2.1))) (some (.d (natD a.2.2)))) rfl hb rfl (i1 (by simpa using h))
      · obtain ⟨e', q⟩ := i2 (by simpa using h)
        exact ⟨e', forL_c (e1 := ilE A0 w (some (.d (.str a.1))) (some (.d (natD a.2.1))) (some (.d (natD a.2.2)))) rfl hb rfl q⟩
/-! is_world -/
def iwE (R : Rc) (w : List Nat) (a : Option Sv) : Ev := [some (.d R.enc), some (.d (wD w)), some (.d (.tuple (R.ts.map encT))), a]
def iwB : FS := (sIf (tNotF (bT (fCall 3 F_is_number (faCons (fOp2 (seeB ixD) (fVar 1) (fVar 3)) (faCons (fC (.int 0)) (faCons (fOp2 (seeB subD) (lenS (faCons (fOp2 (seeB ixD) (fVar 2) (fVar 3)) faNil)) (fC (.int 1))) faNil))))))
    (sRet (fC (.bool false)))
    sNx)
theorem iw_loop (hw : okW R.ts w) (n : Nat) : ∀ js : List Nat, (∀ j ∈ js, j < R.ts.length) → forL (tgN 3) [3] iwB (js.map fun (i : Nat) => PyData.int (i : Int)) (iwE R w none) n = some (.nx, iwE R w none, n)
  | [], _ => rfl
  | j :: js, hj => by
    have ih := iw_loop hw n js fun x hx => hj x (List.mem_cons_of_mem _ hx)
    have hj0 := hj j List.mem_cons_self
    have q1 : fOp2 (seeB ixD) (fVar 1) (fVar 3) (iwE R w (some (.d (natD j)))) n = some (.d (natD (w.getD j 0)), n) := ix_nat (s := .d (wD w)) rfl rfl (.inl rfl) rfl (w_get (w := w) (by rw [hw.1]; exact hj0))
    have q2 : fOp2 (seeB ixD) (fVar 2) (fVar 3) (iwE R w (some (.d (natD j)))) n = some (.d (encT (R.ts.getD j [])), n) := ix_nat (s := .d (.tuple (R.ts.map encT))) rfl rfl (.inl rfl) rfl (ts_get R hj0)
    have q3 : lenS (faCons (fOp2 (seeB ixD) (fVar 2) (fVar 3)) faNil) (iwE R w (some (.d (natD j)))) n = some (.d (.int (((R.ts.getD j []).map PyData.str).length : Int)), n) := len_ev q2 tlen
    have q4 : fOp2 (seeB subD) (lenS (faCons (fOp2 (seeB ixD) (fVar 2) (fVar 3)) faNil)) (fC (.int 1)) (iwE R w (some (.d (natD j)))) n = some (.d (.int ((((R.ts.getD j []).map PyData.str).length : Int) - 1)), n) := cmp_ev q3 rfl rfl
    have hlt : w.getD j 0 < (R.ts.getD j []).length := hw.2 j _ (getD_get (d := []) hj0)
    have hnum : numD (natD (w.getD j 0)) 0 ((((R.ts.getD j []).map PyData.str).length : Int) - 1) = true := by
      rw [List.length_map]
      exact num_in (by omega) (by omega)
    have hc := notb (call_ev (F := F_is_number) (np := 3) (fa3 (f := fOp2 (seeB ixD) (fVar 1) (fVar 3)) q1 (g := fC (.int 0)) rfl q4) rfl (m_is_number (natD (w.getD j 0)) 0 _ n))
    rw [hnum] at hc
    have hb : iwB (iwE R w (some (.d (natD j)))) n = some (.nx, iwE R w (some (.d (natD j))), n) := if_stT hc (fun h => nomatch h) fun _ => rfl
    exact forL_c (e1 := iwE R w (some (.d (natD j)))) rfl hb rfl ih
theorem dropQ {f : FE} {rest : FS} {e n x n1} {z : Option (Fl × Ev × Nat)} (h : f e n = some (x, n1)) (k : rest e n1 = z) : sSeq (sDrop f) rest e n = z := by
  simp only [sSeq, sDrop, h, k]
def clE (R : Rc) (A : List Ac) (w : List Nat) : Ev := [some (.d R.enc), some (.d (.tuple (A.map encA))), some (.d (wD w))]
end
end Sb

namespace Sb
open PySem PySem.Spec PyProof.Rows L2
/-! ### the worlds of a recipe; its random acts; equal tuples of texts -/
theorem okW_snoc {ps : List (List Str)} {w : List Nat} {t : List Str} {i : Nat} (h : okW ps w) (hi : i < t.length) : okW (ps ++ [t]) (w ++ [i]) := by
  obtain ⟨h1, h2⟩ := h
  refine ⟨by rw [List.length_append, List.length_append, h1]; rfl, fun k u hk => ?_⟩
  by_cases hlt : k < ps.length
  · rw [List.getElem?_append_left hlt] at hk
    have := h2 k u hk
    rw [List.getD_eq_getElem?_getD] at this ⊢
    rw [List.getElem?_append_left (by omega)]
    exact this
  · have hk' := (List.getElem?_eq_some_iff.mp hk).1
    rw [List.length_append, List.length_singleton] at hk'
    have hke : k = ps.length := by omega
    subst hke
    rw [List.getElem?_append_right (Nat.le_refl _), Nat.sub_self] at hk
    cases hk
    rw [List.getD_eq_getElem?_getD, List.getElem?_append_right (by omega), h1, Nat.sub_self]
    exact hi
theorem okW_fold : ∀ (ts ps : List (List Str)) (ws : List (List Nat)), (∀ w ∈ ws, okW ps w) → ∀ w ∈ (ts.map encT).foldl (fun ws t => grow (seqD t).length ws) ws, okW (ps ++ ts) w
  | [], ps, ws, h, w, hw => by rw [List.append_nil]; exact h w hw
  | t :: ts, ps, ws, h, w, hw => by
    have := okW_fold ts (ps ++ [t]) (grow (seqD (encT t)).length ws) (fun v hv => by
      obtain ⟨u, hu, i, hi, rfl⟩ := grow_mem.mp hv
      have hi' : i < (t.map PyData.str).length := hi
      rw [List.length_map] at hi'
      exact okW_snoc (h u hu) hi') w hw
    rw [List.append_assoc] at this
    exact this
theorem okW_worlds (R : Rc) : ∀ w ∈ worldsOf (R.ts.map encT), okW R.ts w := fun w hw => by
  have := okW_fold R.ts [] [[]] (fun v hv => by rw [List.mem_singleton.mp hv]; exact ⟨rfl, fun _ _ h => by simp at h⟩) w hw
  exact this
theorem plain_acts {R : Rc} {ss : List PyData} {acts : List PyData} (h : ∀ a ∈ acts, actD (R.ts.map encT) ss a = true) : ∃ A : List Ac, acts = A.map encA ∧ ∀ a ∈ A, okA R.ts.length a := by
  refine list_enc (f := encA) (P := okA R.ts.length) acts fun d hd => ?_
  obtain ⟨z, i, j, rfl, hz⟩ := act_form2 (h d hd)
  refine ⟨(z, i, j), rfl, ?_⟩
  rcases hz with rfl | rfl
  · have h1 := h _ hd
    rw [act_pin rfl] at h1
    unfold pinD at h1
    rw [Bool.and_eq_true] at h1
    have h2 : numD (.int (i : Int)) 0 (((R.ts.map encT).length : Int) - 1) = true := h1.1
    obtain ⟨k, hk, _, hb⟩ := num_int h2
    cases hk
    rw [List.length_map] at hb
    refine .inl ⟨rfl, ?_⟩
    show i < R.ts.length
    omega
  · exact .inr rfl
theorem lay_T {T : List Str} (h : lowL T 40000) : PyData.canLayAll0 (T.map PyData.str) = true ∧ PyData.depthAll (T.map PyData.str) = 0 ∧ PySem.W.alikeAll (T.map PyData.str) (T.map PyData.str) = true := by
  induction T with
  | nil => exact ⟨rfl, by simp [PyData.depthAll], rfl⟩
  | cons z T ih =>
    obtain ⟨a, b, c⟩ := ih fun y hy => h y (List.mem_cons_of_mem _ hy)
    have hz := lowZ_ok (h z List.mem_cons_self) (by omega)
    rw [List.map_cons]
    refine ⟨?_, ?_, ?_⟩
    · rw [PyData.canLayAll0, a, PyData.canLay0, hz]
      rfl
    · rw [PyData.depthAll, b, PyData.depth]
      rfl
    · rw [PySem.W.alikeAll, c]
      rfl
theorem shaped_T {T : List Str} (h : lowL T 40000) : SeqAt.shaped (.tuple (T.map PyData.str)) = true := by
  obtain ⟨a, b, _⟩ := lay_T h
  exact shaped_of (by rw [PyData.canLay0]; exact a) (by rw [PyData.depth, b]; omega)
theorem eq_T (neg : Bool) {T : List Str} (h : lowL T 40000) : eqD neg (.tuple (T.map PyData.str)) (.tuple (T.map PyData.str)) = some (.bool (true != neg)) := by
  have hs := shaped_T h
  show (if SeqAt.shaped (.tuple (T.map PyData.str)) = true ∧ SeqAt.shaped (.tuple (T.map PyData.str)) = true then some (PyData.bool (PyData.eqv (.tuple (T.map PyData.str)) (.tuple (T.map PyData.str)) != neg)) else none) = _
  rw [if_pos ⟨hs, hs⟩, PySem.W.eqv_refl_alike _ (by rw [PySem.W.alike]; exact (lay_T h).2.2)]
theorem outV_low {R : Rc} {al : List PyData} {w : List Nat} (hR : R.Ok) : lowL (outV R al w) 40000 := fun z hz => by
  obtain ⟨m, _, rfl⟩ := List.mem_map.mp hz
  exact getD_mem (txV_low hR) (lowZ_nil _)
end Sb

namespace Sb
open PySem PySem.Spec PyProof.Rows L2
/-! ### tuples of texts side by side; no acts; what is read of all texts -/
theorem eqvAll_str : ∀ xs ys : List Str, PyData.eqvAll (xs.map PyData.str) (ys.map PyData.str) = decide (xs = ys)
  | [], [] => rfl
  | [], y :: ys => by
    rw [decide_eq_false (fun h => nomatch h)]
    rfl
  | x :: xs, [] => by
    rw [decide_eq_false (fun h => nomatch h)]
    rfl
  | x :: xs, y :: ys => by
    rw [List.map_cons, List.map_cons, PyData.eqvAll, PyData.eqv, eqvAll_str xs ys]
    by_cases h1 : x = y
    · subst h1
      rw [beq_self_eq_true, Bool.true_and]
      exact decide_eq_decide.mpr ⟨fun h => by rw [h], fun h => by injection h⟩
    · rw [beq_eq_false_iff_ne.mpr h1, Bool.false_and]
      exact (decide_eq_false fun h => h1 (by injection h)).symm
theorem eqv_TT (neg : Bool) {xs ys : List Str} (hx : lowL xs 40000) (hy : lowL ys 40000) : eqD neg (.tuple (xs.map PyData.str)) (.tuple (ys.map PyData.str)) = some (.bool (decide (xs = ys) != neg)) := by
  show (if SeqAt.shaped (.tuple (xs.map PyData.str)) = true ∧ SeqAt.shaped (.tuple (ys.map PyData.str)) = true then some (PyData.bool (PyData.eqv (.tuple (xs.map PyData.str)) (.tuple (ys.map PyData.str)) != neg)) else none) = _
  rw [if_pos ⟨shaped_T hx, shaped_T hy⟩, PyData.eqv, eqvAll_str]
theorem g_tupn {t : FT} {rest : FS} {e n v n'} {x : PyData} (h : t e n = some (false, n)) (k : Gives rest e n v n') : Gives (sSeq (sIf t (sRet (fC x)) sNx) rest) e n v n' := g_no h k
section
variable {ts : List (List Str)} {hid : Nat → Nat → Bool} {w : List Nat}
theorem txL_pre : ∀ (ss : List Stp) (j : Nat) (T : List Str), ∃ U, txL ts hid w j T ss = T ++ U
  | [], j, T => ⟨[], (List.append_nil T).symm⟩
  | s :: ss, j, T => by
    obtain ⟨U, e⟩ := txL_pre ss (j + 1) (T ++ [stV ts hid w j T s])
    exact ⟨stV ts hid w j T s :: U, by
      show txL ts hid w (j + 1) (T ++ [stV ts hid w j T s]) ss = _
      rw [e, List.append_assoc]
      rfl⟩
theorem rdV_pre {m j : Nat} {T U : List Str} (hj : T.length = j) {r : Rd} (hr : okRd m j r) : rdV ts hid w j (T ++ U) r = rdV ts hid w j T r := by
  unfold rdV
  by_cases h : r.1 = "step"
  · rw [if_pos h, if_pos h]
    rcases hr with ⟨h1, _⟩ | ⟨_, h2⟩
    · rw [h1] at h
      exact absurd h (by decide +kernel)
    · rw [List.getD_eq_getElem?_getD, List.getD_eq_getElem?_getD, List.getElem?_append_left (by omega)]
  · rw [if_neg h, if_neg h]
theorem rlV_pre {m j : Nat} {T U : List Str} (hj : T.length = j) {s : Stp} (hs : ∀ r ∈ s.2, okRd m j r) : rlV ts hid w j (T ++ U) s = rlV ts hid w j T s := by
  unfold rlV
  exact List.map_congr_left fun r hr => rdV_pre hj (hs r hr)
theorem rsL_len : ∀ (ss : List Stp) (j : Nat) (T : List Str), (rsL ts hid w j T ss).length = ss.length
  | [], _, _ => rfl
  | s :: ss, j, T => by
    show (rlV ts hid w j T s :: rsL ts hid w (j + 1) (T ++ [stV ts hid w j T s]) ss).length = _
    rw [List.length_cons, rsL_len ss, List.length_cons]
theorem low_rsL (ht : ∀ t ∈ ts, okTh t) : ∀ (ss : List Stp) (j k : Nat) (T : List Str), 4 ≤ k → lowL T k → ∀ x ∈ rsL ts hid w j T ss, lowL x (2 ^ ss.length * k)
  | [], _, _, _, _, _, x, hx => nomatch hx
  | s :: ss, j, k, T, hk, hT, x, hx => by
    have hp : 1 ≤ 2 ^ (s :: ss).length := Nat.pow_pos (by omega)
    have hx' : x ∈ rlV ts hid w j T s :: rsL ts hid w (j + 1) (T ++ [stV ts hid w j T s]) ss := hx
    rcases List.mem_cons.mp hx' with rfl | h
    · exact fun z hz => (low_rlV hk ht hT s z hz).le (Nat.le_mul_of_pos_left _ hp)
    · have := low_rsL ht ss (j + 1) (2 * k) (T ++ [stV ts hid w j T s]) (by omega) (low_snoc hT (low_stV hk ht hT s)) x h
      rw [List.length_cons, Nat.pow_succ, Nat.mul_assoc]
      exact this
end
theorem rsV_len (R : Rc) (al : List PyData) (w : List Nat) : (rsV R al w).length = R.ss.length := rsL_len _ _ _
theorem rsV_low {R : Rc} (hR : R.Ok) (al : List PyData) (w : List Nat) : ∀ x ∈ rsV R al w, lowL x 40000 := fun x hx z hz =>
  (low_rsL hR.th R.ss 0 4 [] (Nat.le_refl _) (fun z hz => nomatch hz) x hx z hz).le (pow8 hR.s8)
/-- the text of a step is made of what is read -/
theorem txL_rs {ts : List (List Str)} {hid : Nat → Nat → Bool} {w : List Nat} : ∀ (ss : List Stp) (j : Nat) (T : List Str), txL ts hid w j T ss = T ++ (ss.zip (rsL ts hid w j T ss)).map fun p => mkT p.1.1 p.2
  | [], _, T => (List.append_nil T).symm
  | s :: ss, j, T => by
    show txL ts hid w (j + 1) (T ++ [stV ts hid w j T s]) ss = T ++ ((s :: ss).zip (rlV ts hid w j T s :: rsL ts hid w (j + 1) (T ++ [stV ts hid w j T s]) ss)).map _
    rw [txL_rs ss, List.append_assoc]
    rfl
end Sb

namespace Sb
open PySem PySem.Spec PyProof.Rows L2
/-! ### steps that are right; parts of a recipe -/
theorem okSt_good {m j : Nat} {s : Stp} (h : okSt m j s) : goodS m j (encS s) := by
  obtain ⟨h1, h2⟩ := h
  have h3 := read_le h1
  refine ⟨s.1, s.2.map encR, rfl, by rw [List.length_map]; exact h1, by rw [List.length_map]; omega, ?_, fun r hr => ?_⟩
  · rcases read_cases h1 with ⟨e, _⟩ | ⟨e, _⟩ | ⟨e, _⟩ | ⟨e, _⟩ | ⟨e, _⟩ | ⟨e, _⟩ | ⟨e, _⟩ | ⟨e, _⟩ <;> (rw [e]; decide +kernel)
  · obtain ⟨x, hx, rfl⟩ := List.mem_map.mp hr
    exact ⟨x.1, x.2, rfl, h2 x hx⟩
theorem good_okSt {m j : Nat} {d : PyData} (h : goodS m j d) : ∃ s, d = encS s ∧ okSt m j s := by
  obtain ⟨o, rs, rfl, a, _, _, b⟩ := h
  obtain ⟨qs, rfl, hq⟩ := list_enc (f := encR) (P := okRd m j) rs fun x hx => by
    obtain ⟨w, i, rfl, q⟩ := b x hx
    exact ⟨(w, i), rfl, q⟩
  exact ⟨(o, qs), rfl, by rw [List.length_map] at a; exact a, hq⟩
theorem Rc.Ok.parts {R : Rc} (hR : R.Ok) : thingsD (.tuple (R.ts.map encT)) = true ∧ madeD (.tuple (R.ms.map natD)) (R.ss.length : Int) = true ∧ smD (.tuple (R.ts.map encT)) = true ∧ ascD (R.ms.map natD) = true := by
  have h := hR.rd
  have h' : (thingsD (.tuple (R.ts.map encT)) && (stepsD (.tuple (R.ss.map encS)) ((R.ts.map encT).length : Int) && madeD (.tuple (R.ms.map natD)) ((R.ss.map encS).length : Int))) = true := h
  rw [Bool.and_eq_true, Bool.and_eq_true, List.length_map] at h'
  have hm : (tupD (.tuple (R.ms.map natD)) 1 3 && (R.ms.map natD).all (fun x => numD x 0 ((R.ss.length : Int) - 1)) && ascD (R.ms.map natD)) = true := by
    have := h'.2.2
    rw [List.length_map] at this
    exact this
  rw [Bool.and_eq_true] at hm
  have hs := hR.sm
  have hs' : (smD (.tuple (R.ts.map encT)) && smDs [.tuple (R.ss.map encS), .tuple (R.ms.map natD)]) = true := hs
  rw [Bool.and_eq_true] at hs'
  refine ⟨h'.1, ?_, hs'.1, hm.2⟩
  have := h'.2.2
  rw [List.length_map] at this
  exact this
end Sb

namespace Sb
open PySem PySem.Spec PyProof.Rows L2
/-! ### other steps over the same things -/
theorem Rc.Ok.steps {R : Rc} (hR : R.Ok) {ss : List Stp} (h1 : R.ss.length ≤ ss.length) (h8 : ss.length ≤ 8) (hst : ∀ (j : Nat) (s : Stp), ss[j]? = some s → okSt R.ts.length j s) : Rc.Ok ⟨R.ts, ss, R.ms⟩ := by
  obtain ⟨p1, p2, p3, p4⟩ := hR.parts
  have s1 := hR.s1
  have m1 := hR.m1
  have m3 := hR.m3
  refine ⟨hR.t1, hR.t5, hR.th, by show 1 ≤ ss.length; omega, h8, hst, m1, m3, fun m hm => Nat.lt_of_lt_of_le (hR.md m hm) h1, ?_, ?_⟩
  · show (thingsD (.tuple (R.ts.map encT)) && (stepsD (.tuple (ss.map encS)) ((R.ts.map encT).length : Int) && madeD (.tuple (R.ms.map natD)) ((ss.map encS).length : Int))) = true
    have e2 : stepsD (.tuple (ss.map encS)) ((R.ts.map encT).length : Int) = true := by
      show (tupD (.tuple (ss.map encS)) 1 8 && stepsAllD (ss.map encS) ((R.ts.map encT).length : Int) 0) = true
      rw [tup_yes (by rw [List.length_map]; omega) (by rw [List.length_map]; omega), Bool.true_and, stepsAll_iff, List.all_eq_true]
      intro j hj
      have hj := List.mem_range.mp hj
      rw [List.length_map] at hj
      have hg := getD_get (xs := ss) (i := j) (d := ("", [])) hj
      have e : (ss.map encS).getD (0 + j) .none = encS (ss.getD j ("", [])) := by
        rw [Nat.zero_add, List.getD_eq_getElem?_getD, List.getElem?_map, hg]
        rfl
      rw [Nat.zero_add] at e ⊢
      rw [e, List.length_map]
      exact goodS_ok (okSt_good (hst j _ hg))
    have e3 : madeD (.tuple (R.ms.map natD)) ((ss.map encS).length : Int) = true := by
      show (tupD (.tuple (R.ms.map natD)) 1 3 && (R.ms.map natD).all (fun x => numD x 0 (((ss.map encS).length : Int) - 1)) && ascD (R.ms.map natD)) = true
      rw [tup_yes (by rw [List.length_map]; omega) (by rw [List.length_map]; omega), p4, List.all_eq_true.mpr fun x hx => ?_]
      · rfl
      · obtain ⟨m, hm, rfl⟩ := List.mem_map.mp hx
        have := hR.md m hm
        rw [List.length_map]
        exact num_in (by omega) (by omega)
    rw [p1, e2, e3]
    rfl
  · refine smDs_of fun x hx => ?_
    simp only [List.mem_cons, List.not_mem_nil, or_false] at hx
    rcases hx with rfl | rfl | rfl
    · exact p3
    · refine smDs_of fun d hd => ?_
      obtain ⟨s, hs, rfl⟩ := List.mem_map.mp hd
      obtain ⟨j, hj⟩ := List.getElem?_of_mem hs
      exact goodS_sm (okSt_good (hst j s hj))
    · refine smDs_of fun d hd => ?_
      obtain ⟨m, _, rfl⟩ := List.mem_map.mp hd
      rfl
/-! the same things -/
theorem lay_TT : ∀ ts : List (List Str), (∀ t ∈ ts, okTh t) → PyData.canLayAll0 (ts.map encT) = true ∧ PyData.depthAll (ts.map encT) ≤ 1 ∧ PySem.W.alikeAll (ts.map encT) (ts.map encT) = true
  | [], _ => ⟨rfl, by simp [PyData.depthAll], rfl⟩
  | t :: ts, h => by
    obtain ⟨a, b, c⟩ := lay_TT ts fun u hu => h u (List.mem_cons_of_mem _ hu)
    have hl : lowL t 40000 := fun z hz => ((h t List.mem_cons_self).2.2 z hz).le (by omega)
    obtain ⟨d, e, f⟩ := lay_T hl
    have et : encT t = .tuple (t.map PyData.str) := rfl
    rw [List.map_cons, et]
    refine ⟨?_, ?_, ?_⟩
    · rw [PyData.canLayAll0, a, PyData.canLay0, d]
      rfl
    · rw [PyData.depthAll, PyData.depth, e]
      omega
    · rw [PySem.W.alikeAll, c, PySem.W.alike, f]
      rfl
theorem eq_things (neg : Bool) {ts : List (List Str)} (h : ∀ t ∈ ts, okTh t) : eqD neg (.tuple (ts.map encT)) (.tuple (ts.map encT)) = some (.bool (true != neg)) := by
  obtain ⟨a, b, c⟩ := lay_TT ts h
  have hs : SeqAt.shaped (.tuple (ts.map encT)) = true := shaped_of (by rw [PyData.canLay0]; exact a) (by rw [PyData.depth]; omega)
  show (if SeqAt.shaped (.tuple (ts.map encT)) = true ∧ SeqAt.shaped (.tuple (ts.map encT)) = true then some (PyData.bool (PyData.eqv (.tuple (ts.map encT)) (.tuple (ts.map encT)) != neg)) else none) = _
  rw [if_pos ⟨hs, hs⟩, PySem.W.eqv_refl_alike _ (by rw [PySem.W.alike]; exact c)]
theorem eq_w (neg : Bool) (w : List Nat) : eqD neg (wD w) (wD w) = some (.bool (true != neg)) := by
  have h := lay_W [w]
  have hs : SeqAt.shaped (wD w) = true := by
    have e : wD w = .tuple ((w.map fun (i : Nat) => (i : Int)).map PyData.int) := by
      unfold wD
      rw [List.map_map]
      rfl
    rw [e]
    exact shaped_of (by rw [PyData.canLay0]; exact lay_ints _) (by rw [PyData.depth, dep_ints]; omega)
  have ha : PySem.W.alike (wD w) (wD w) = true := by
    unfold wD
    rw [PySem.W.alike]
    exact alike_W w w rfl
  show (if SeqAt.shaped (wD w) = true ∧ SeqAt.shaped (wD w) = true then some (PyData.bool (PyData.eqv (wD w) (wD w) != neg)) else none) = _
  rw [if_pos ⟨hs, hs⟩, PySem.W.eqv_refl_alike _ ha]
/-! the law's out -/
end Sb

namespace Sb
open PySem PySem.Spec PyProof.Rows L2
/-! ### words for walks -/
theorem fa_c {f : FE} {g : FA} {e : Ev} {n n1 n2 : Nat} {a : Sv} {as : List Sv} (h1 : f e n = some (a, n1)) (h2 : g e n1 = some (as, n2)) : faCons f g e n = some (a.arg :: as, n2) := by
  simp only [faCons, h1, h2]
theorem fa_n {e : Ev} {n : Nat} : faNil e n = some ([], n) := rfl
theorem catT_ev {f g : FE} {e : Ev} {n n1 n2 : Nat} {xs ys : List PyData} (h1 : f e n = some (.d (.tuple xs), n1)) (h2 : g e n1 = some (.d (.tuple ys), n2)) (hl : xs.length + ys.length ≤ 1000) : fOp2 addL f g e n = some (.d (.tuple (xs ++ ys)), n2) := by
  have hb : xs.length + ys.length ≤ big := Nat.le_trans hl (by decide)
  have e1 : seeB addD (.d (.tuple xs)) (.d (.tuple ys)) = some (.d (.tuple (xs ++ ys))) := by
    unfold seeB
    show (match (if xs.length + ys.length ≤ big then some (PyData.tuple (xs ++ ys)) else none) with
      | some z => some (Sv.d z)
      | none => none) = _
    rw [if_pos hb]
  have e2 : addL (.d (.tuple xs)) (.d (.tuple ys)) = some (.d (.tuple (xs ++ ys))) := e1
  simp only [fOp2, h1, h2, e2]
theorem lst_evR {fa : FA} {e : Ev} {n n1 : Nat} {as : List Sv} {xs : List PyData} (h : fa e n = some (as, n1)) (hk : keepAll as = some xs) (hl : xs.length ≤ 1000) : fLst fa e n = some (.cell xs, n1) := by
  have hb : xs.length ≤ big := Nat.le_trans hl (by decide)
  unfold fLst
  rw [h]
  dsimp only
  rw [hk]
  dsimp only
  rw [if_pos hb]
theorem tupN_ev {fa : FA} {e : Ev} {n n1 : Nat} {as : List Sv} {xs : List PyData} (h : fa e n = some (as, n1)) (hk : keepAll as = some xs) (hl : xs.length ≤ 1000) : fTup fa e n = some (.d (.tuple xs), n1) := by
  have hb : xs.length ≤ big := Nat.le_trans hl (by decide)
  unfold fTup
  rw [h]
  dsimp only
  rw [hk]
  dsimp only
  rw [if_pos hb]
theorem itTake_c {f : FE} {e : Ev} {n n1 : Nat} {xs : List PyData} (h : f e n = some (.cell xs, n1)) : itTake f e n = some (xs, n1) := by simp only [itTake, h]
theorem itTake_t {f : FE} {e : Ev} {n n1 : Nat} {xs : List PyData} (h : f e n = some (.d (.tuple xs), n1)) : itTake f e n = some (xs, n1) := by simp only [itTake, h]
theorem setV {i : Nat} {f : FE} {e n n1} {sv : Sv} (h : f e n = some (sv, n1)) (ho : sv.own = true) : sAsg i f e n = some (.nx, e.set i (some sv), n1) := by
  simp only [sAsg, h, ho, if_true]
theorem ifB_ev {t : FT} {f g : FE} {e : Ev} {n n1 : Nat} {b : Bool} (h : t e n = some (b, n1)) : fIf t f g e n = if b = true then f e n1 else g e n1 := by
  unfold fIf
  rw [h]
  cases b <;> rfl
theorem notv {f : FE} {e n n1 b} (h : f e n = some (.d (.bool b), n1)) : fNot f e n = some (.d (.bool (!b)), n1) := by
  simp only [fNot, h]
/-- all of a list that is just made, all true -/
theorem all_map {f : FE} {e : Ev} {n n1 : Nat} {bs : List Bool} (h : f e n = some (.cell (bs.map PyData.bool), n1)) : fBi (see1 allG) (faCons f faNil) e n = some (.d (.bool (bs.all id)), n1) := by
  have hb : ∀ bs : List Bool, bools (bs.map PyData.bool) = some bs := fun bs => by
    induction bs with
    | nil => rfl
    | cons b bs ih =>
      show (match bools (bs.map PyData.bool) with
        | some cs => some (b :: cs)
        | none => none) = _
      rw [ih]
  have e1 : see1 allG [.d (.list (bs.map PyData.bool))] = some (.d (.bool (bs.all id))) := by
    show (match bools (bs.map PyData.bool) with
      | some bs => some (Sv.d (.bool (bs.all id)))
      | none => none) = _
    rw [hb]
  simp only [fBi, faCons, h, faNil, Sv.arg, e1]
theorem any_map {f : FE} {e : Ev} {n n1 : Nat} {bs : List Bool} (h : f e n = some (.cell (bs.map PyData.bool), n1)) : fBi (see1 anyG) (faCons f faNil) e n = some (.d (.bool (bs.any id)), n1) := by
  have hb : ∀ bs : List Bool, bools (bs.map PyData.bool) = some bs := fun bs => by
    induction bs with
    | nil => rfl
    | cons b bs ih =>
      show (match bools (bs.map PyData.bool) with
        | some cs => some (b :: cs)
        | none => none) = _
      rw [ih]
  have e1 : see1 anyG [.d (.list (bs.map PyData.bool))] = some (.d (.bool (bs.any id))) := by
    show (match bools (bs.map PyData.bool) with
      | some bs => some (Sv.d (.bool (bs.any id)))
      | none => none) = _
    rw [hb]
  simp only [fBi, faCons, h, faNil, Sv.arg, e1]
/-- a comprehension over data, each item by itself -/
theorem lc_map {i : Nat} {f : FE} {e : Ev} {n : Nat} {g : PyData → PyData} (hi : e[i]? = some none) : ∀ {xs : List PyData}, (∀ x ∈ xs, f (e.set i (some (.d x))) n = some (.d (g x), n)) → lcL (tgN i) [i] tT f xs e n = some (xs.map g, n)
  | [], _ => rfl
  | x :: xs, h => by
    have ih := lc_map (g := g) hi fun y hy => h y (List.mem_cons_of_mem _ hy)
    have e1 : wipeE e [i] = e := by
      show e.set i none = e
      apply List.ext_getElem?
      intro j
      by_cases q : i = j
      · subst q
        have hl := (List.getElem?_eq_some_iff.mp hi).1
        rw [List.getElem?_set_self hl, hi]
      · rw [List.getElem?_set_ne q]
    have e2 : tgN i x (wipeE e [i]) = some (e.set i (some (.d x))) := by
      rw [e1]
      rfl
    simp only [lcL, e2, tT, h x List.mem_cons_self, Sv.take, ih, List.map_cons]
theorem nx_back {i : Nat} {e : Ev} {o : Option Sv} (h : e[i]? = some none) : wipeE (e.set i o) [i] = e := set_back h
/-- a loop whose body finds nothing wrong -/
theorem for_none {t : FT} {i : Nat} {r : PyData} {e : Ev} {n : Nat} (hi : e[i]? = some none) : ∀ {xs : List PyData}, (∀ x ∈ xs, t (e.set i (some (.d x))) n = some (false, n)) → forL (tgN i) [i] (sIf t (sRet (fC r)) sNx) xs e n = some (.nx, e, n)
  | [], _ => rfl
  | x :: xs, h => by
    have ih := for_none (r := r) hi fun y hy => h y (List.mem_cons_of_mem _ hy)
    have hb : sIf t (sRet (fC r)) sNx (e.set i (some (.d x))) n = some (.nx, e.set i (some (.d x)), n) := by
      unfold sIf
      rw [h x List.mem_cons_self]
      rfl
    exact forL_c (e1 := e.set i (some (.d x))) rfl hb (nx_back hi) ih
end Sb

namespace Sb
open PySem PySem.Spec PyProof.Rows L2
/-! ### a recipe is equal to itself -/
theorem lay_RR {m j : Nat} : ∀ rs : List Rd, (∀ r ∈ rs, okRd m j r) → PyData.canLayAll0 (rs.map encR) = true ∧ PyData.depthAll (rs.map encR) ≤ 1 ∧ PySem.W.alikeAll (rs.map encR) (rs.map encR) = true
  | [], _ => ⟨rfl, by simp [PyData.depthAll], rfl⟩
  | r :: rs, h => by
    obtain ⟨a, b, c⟩ := lay_RR rs fun x hx => h x (List.mem_cons_of_mem _ hx)
    have hw : r.1 = "thing" ∨ r.1 = "step" := (h r List.mem_cons_self).imp (fun z => z.1) fun z => z.1
    have e : encR r = .tuple [.str r.1, .int (r.2 : Int)] := rfl
    have q1 : PyData.canLay0 (.str r.1) = true := by
      rw [PyData.canLay0]
      rcases hw with w | w <;> (rw [w]; decide +kernel)
    rw [List.map_cons, e]
    refine ⟨?_, ?_, ?_⟩
    · rw [PyData.canLayAll0, a, PyData.canLay0, PyData.canLayAll0, q1]
      rfl
    · rw [PyData.depthAll, PyData.depth, PyData.depthAll, PyData.depthAll, PyData.depthAll, PyData.depth, PyData.depth]
      omega
    · rw [PySem.W.alikeAll, c]
      rfl
theorem lay_SS {m : Nat} : ∀ ss : List Stp, (∀ s ∈ ss, ∃ j, okSt m j s) → PyData.canLayAll0 (ss.map encS) = true ∧ PyData.depthAll (ss.map encS) ≤ 3 ∧ PySem.W.alikeAll (ss.map encS) (ss.map encS) = true
  | [], _ => ⟨rfl, by simp [PyData.depthAll], rfl⟩
  | s :: ss, h => by
    obtain ⟨a, b, c⟩ := lay_SS ss fun x hx => h x (List.mem_cons_of_mem _ hx)
    obtain ⟨j, o⟩ := h s List.mem_cons_self
    obtain ⟨d, e, f⟩ := lay_RR s.2 o.2
    have es : encS s = .tuple [.str s.1, .tuple (s.2.map encR)] := rfl
    have q1 : PyData.canLay0 (.str s.1) = true := by
      rw [PyData.canLay0]
      rcases read_cases o.1 with ⟨w, _⟩ | ⟨w, _⟩ | ⟨w, _⟩ | ⟨w, _⟩ | ⟨w, _⟩ | ⟨w, _⟩ | ⟨w, _⟩ | ⟨w, _⟩ <;> (rw [w]; decide +kernel)
    rw [List.map_cons, es]
    refine ⟨?_, ?_, ?_⟩
    · rw [PyData.canLayAll0, a, PyData.canLay0, PyData.canLayAll0, q1, PyData.canLayAll0, PyData.canLay0, d]
      rfl
    · rw [PyData.depthAll, PyData.depth, PyData.depthAll, PyData.depthAll, PyData.depthAll, PyData.depth, PyData.depth]
      omega
    · have f2 : PySem.W.alike (.tuple (s.2.map encR)) (.tuple (s.2.map encR)) = true := by rw [PySem.W.alike]; exact f
      rw [PySem.W.alikeAll, c, PySem.W.alike, PySem.W.alikeAll, PySem.W.alikeAll, PySem.W.alikeAll, f2]
      rfl
theorem lay_NN : ∀ ks : List Nat, PyData.canLayAll0 (ks.map natD) = true ∧ PyData.depthAll (ks.map natD) = 0 ∧ PySem.W.alikeAll (ks.map natD) (ks.map natD) = true
  | [] => ⟨rfl, by simp [PyData.depthAll], rfl⟩
  | k :: ks => by
    obtain ⟨a, b, c⟩ := lay_NN ks
    have e : natD k = .int (k : Int) := rfl
    rw [List.map_cons, e]
    refine ⟨?_, ?_, ?_⟩
    · rw [PyData.canLayAll0, a]
      rfl
    · rw [PyData.depthAll, b, PyData.depth]
      rfl
    · rw [PySem.W.alikeAll, c]
      rfl
theorem lay_rec {R : Rc} (hR : R.Ok) : SeqAt.shaped R.enc = true ∧ PySem.W.alike R.enc R.enc = true := by
  obtain ⟨a1, a2, a3⟩ := lay_TT R.ts hR.th
  obtain ⟨b1, b2, b3⟩ := lay_SS (m := R.ts.length) R.ss fun s hs => by
    obtain ⟨j, hj⟩ := List.getElem?_of_mem hs
    exact ⟨j, hR.st j s hj⟩
  obtain ⟨c1, c2, c3⟩ := lay_NN R.ms
  have e : R.enc = .tuple [.tuple (R.ts.map encT), .tuple (R.ss.map encS), .tuple (R.ms.map natD)] := rfl
  rw [e]
  refine ⟨shaped_of ?_ ?_, ?_⟩
  · rw [PyData.canLay0, PyData.canLayAll0, PyData.canLayAll0, PyData.canLayAll0, PyData.canLay0, PyData.canLay0, PyData.canLay0, a1, b1, c1]
    rfl
  · rw [PyData.depth, PyData.depthAll, PyData.depthAll, PyData.depthAll, PyData.depthAll, PyData.depth, PyData.depth, PyData.depth]
    omega
  · rw [PySem.W.alike, PySem.W.alikeAll, PySem.W.alikeAll, PySem.W.alikeAll, PySem.W.alike, PySem.W.alike, PySem.W.alike, a3, b3, c3]
    rfl
theorem eq_rec (neg : Bool) {R : Rc} (hR : R.Ok) : eqD neg R.enc R.enc = some (.bool (true != neg)) := by
  obtain ⟨hs, ha⟩ := lay_rec hR
  have e : R.enc = .tuple [.tuple (R.ts.map encT), .tuple (R.ss.map encS), .tuple (R.ms.map natD)] := rfl
  rw [e] at hs ha ⊢
  show (if SeqAt.shaped (.tuple [.tuple (R.ts.map encT), .tuple (R.ss.map encS), .tuple (R.ms.map natD)]) = true ∧ SeqAt.shaped (.tuple [.tuple (R.ts.map encT), .tuple (R.ss.map encS), .tuple (R.ms.map natD)]) = true then some (PyData.bool (PyData.eqv (.tuple [.tuple (R.ts.map encT), .tuple (R.ss.map encS), .tuple (R.ms.map natD)]) (.tuple [.tuple (R.ts.map encT), .tuple (R.ss.map encS), .tuple (R.ms.map natD)]) != neg)) else none) = _
  rw [if_pos ⟨hs, hs⟩, PySem.W.eqv_refl_alike _ ha]
end Sb

namespace Sb
open PySem PySem.Spec PyProof.Rows L2
/-! ### texts of recipes, written -/
abbrev tlS (x : Str) : List Nat := x.cps.toList
theorem tl_app (x y : Str) : tlS (x ++ y) = tlS x ++ tlS y := TL.tl_append x y
theorem len_tl (x : Str) : x.length = (tlS x).length := (Array.length_toList).symm
theorem tl_joinS (y : Str) (ps : List Str) : tlS (Txt.join y ps) = TL.joinL (tlS y) (ps.map tlS) := by
  rw [TL.join_eq]
  exact TL.tl_join y ps
theorem joinL_mem (S : List Nat) : ∀ (ps : List (List Nat)) (c : Nat), c ∈ TL.joinL S ps → c ∈ S ∨ ∃ p ∈ ps, c ∈ p
  | [], c, h => nomatch h
  | [p], c, h => .inr ⟨p, List.mem_singleton.mpr rfl, h⟩
  | p :: q :: r, c, h => by
    have h : c ∈ p ++ (S ++ TL.joinL S (q :: r)) := h
    rcases List.mem_append.mp h with h | h
    · exact .inr ⟨p, List.mem_cons_self, h⟩
    · rcases List.mem_append.mp h with h | h
      · exact .inl h
      · rcases joinL_mem S (q :: r) c h with h | ⟨z, hz, hc⟩
        · exact .inl h
        · exact .inr ⟨z, List.mem_cons_of_mem _ hz, hc⟩
theorem mem_joinS {y : Str} {ps : List Str} {c : Nat} (h : c ∈ tlS (Txt.join y ps)) : c ∈ tlS y ∨ ∃ p ∈ ps, c ∈ tlS p := by
  rw [tl_joinS] at h
  rcases joinL_mem _ _ _ h with h | ⟨p, hp, hc⟩
  · exact .inl h
  · obtain ⟨z, hz, rfl⟩ := List.mem_map.mp hp
    exact .inr ⟨z, hz, hc⟩
def szS (y : Str) (ps : List Str) : Nat := (ps.map fun (p : Str) => p.length).sum + ps.length * y.length
theorem joinL_len (S : List Nat) : ∀ ps : List (List Nat), (TL.joinL S ps).length ≤ (ps.map List.length).sum + ps.length * S.length
  | [] => Nat.zero_le _
  | [p] => by
    show p.length ≤ p.length + 0 + 1 * S.length
    omega
  | p :: q :: r => by
    have ih := joinL_len S (q :: r)
    show (p ++ (S ++ TL.joinL S (q :: r))).length ≤ _
    rw [List.length_append, List.length_append, List.map_cons, List.sum_cons, List.length_cons, Nat.add_mul]
    omega
theorem join_len (y : Str) (ps : List Str) : (Txt.join y ps).length ≤ szS y ps := by
  have h := joinL_len (tlS y) (ps.map tlS)
  rw [← tl_joinS, ← len_tl, List.length_map, ← len_tl, List.map_map] at h
  have e : (ps.map (List.length ∘ tlS)) = ps.map fun (p : Str) => p.length := List.map_congr_left fun p _ => (len_tl p).symm
  rw [e] at h
  exact h
theorem sum_leS {b : Nat} : ∀ {ps : List Str}, (∀ p ∈ ps, p.length ≤ b) → (ps.map fun (p : Str) => p.length).sum ≤ b * ps.length
  | [], _ => Nat.zero_le _
  | p :: ps, h => by
    have ih := sum_leS fun q hq => h q (List.mem_cons_of_mem _ hq)
    have := h p List.mem_cons_self
    rw [List.map_cons, List.sum_cons, List.length_cons, Nat.mul_add]
    omega
theorem sz_le {b : Nat} {y : Str} {ps : List Str} (h : ∀ p ∈ ps, p.length ≤ b) : szS y ps ≤ (b + y.length) * ps.length := by
  have := sum_leS h
  unfold szS
  rw [Nat.add_mul, Nat.mul_comm y.length]
  omega
theorem join_evS {f : FE} {e : Ev} {n : Nat} {y : Str} {ps : List Str} {sv : Sv} (h : f e n = some (sv, n)) (hs : sv.arg.see = some (.list (ps.map PyData.str))) (hb : szS y ps ≤ 100000) : fMt "str" joinG (fC (.str y)) (faCons f faNil) e n = some (.d (.str (Txt.join y ps)), n) := by
  have hc : fC (.str y) e n = some (.d (.str y), n) := rfl
  have ht : tyS "str" (.d (.str y)) = true := rfl
  have ha : faCons f faNil e n = some ([sv.arg], n) := by
    simp only [faCons, h, faNil]
  have hj : joinG (.d (.str y)) [sv.arg] = some (.d (.str (Txt.join y ps))) := by
    unfold joinG
    dsimp only
    rw [hs]
    dsimp only
    rw [strsD_map]
    dsimp only
    exact if_pos hb
  simp only [fMt, hc, ht, if_true, ha, hj]
theorem split_evS {f : FE} {e : Ev} {n : Nat} {x y : Str} (h : f e n = some (.d (.str x), n)) (hy : (y.length == 0) = false) (hl : x.length + 2 ≤ 100000) : fMt "str" splitG f (faCons (fC (.str y)) faNil) e n = some (.cell ((Txt.split x y).map PyData.str), n) := by
  have ht : tyS "str" (.d (.str x)) = true := rfl
  have ha : faCons (fC (.str y)) faNil e n = some ([.d (.str y)], n) := rfl
  have hj : splitG (.d (.str x)) [.d (.str y)] = some (.cell ((Txt.split x y).map PyData.str)) := by
    show (if (y.length == 0) = false ∧ x.length + 2 ≤ big then some (Sv.cell ((Txt.split x y).map PyData.str)) else none) = _
    rw [if_pos ⟨hy, hl⟩]
  simp only [fMt, h, ht, if_true, ha, hj]
theorem addS_ev {f g : FE} {e : Ev} {n : Nat} {x y : Str} (h1 : f e n = some (.d (.str x), n)) (h2 : g e n = some (.d (.str y), n)) (hl : x.length + y.length ≤ 100000) : fOp2 addL f g e n = some (.d (.str (x ++ y)), n) := by
  simp only [fOp2, h1, h2, addL, seeB, Sv.see, addD]
  rw [if_pos (show x.length + y.length ≤ big from hl)]
/-! pieces -/
theorem ten {P : Nat → Prop} (h0 : P 0) (h1 : P 1) (h2 : P 2) (h3 : P 3) (h4 : P 4) (h5 : P 5) (h6 : P 6) (h7 : P 7) (h8 : P 8) (h9 : P 9) : ∀ k, k < 10 → P k
  | 0, _ => h0
  | 1, _ => h1
  | 2, _ => h2
  | 3, _ => h3
  | 4, _ => h4
  | 5, _ => h5
  | 6, _ => h6
  | 7, _ => h7
  | 8, _ => h8
  | 9, _ => h9
  | k + 10, h => by omega
def dgS (k : Nat) : Str := Str.ofString (toString ((k : Nat) : Int))
theorem dg_tl {k : Nat} (h : k < 10) : tlS (dgS k) = [48 + k] := (TL.tl_num k).trans (TL.numL_lt h)
theorem dg_len {k : Nat} (h : k < 10) : (dgS k).length = 1 := by rw [len_tl, dg_tl h]; rfl
def sgS (w : Str) : Str := if w = "thing" then "t" else "s"
def rdT (r : Rd) : Str := sgS r.1 ++ dgS r.2
def okR46 (r : Rd) : Prop := (r.1 = "thing" ∨ r.1 = "step") ∧ r.2 < 10
theorem rd_tl {r : Rd} (h : okR46 r) : tlS (rdT r) = (if r.1 = "thing" then [116] else [115]) ++ [48 + r.2] := by
  unfold rdT sgS
  rw [tl_app, dg_tl h.2]
  split <;> rfl
theorem rd_lenS {r : Rd} (h : okR46 r) : (rdT r).length = 2 := by
  rw [len_tl, rd_tl h]
  split <;> rfl
def dsh (z : Str) : Str := if z = "" then "-" else z
def thT (t : List Str) : Str := Txt.join "|" (t.map dsh)
def stT (s : Stp) : Str := Txt.join " " (s.1 :: s.2.map rdT)
def wrP (R : Rc) : List Str := [Txt.join ", " (R.ts.map thT), Txt.join ", " (R.ss.map stT), Txt.join ", " (R.ms.map dgS)]
def wrT (R : Rc) : Str := Txt.join "; " (wrP R)
def okT46 (t : List Str) : Prop := 1 ≤ t.length ∧ t.length ≤ 4 ∧ ∀ z ∈ t, lowZ z 4
theorem dsh_len {z : Str} (h : lowZ z 4) : (dsh z).length ≤ 4 := by
  unfold dsh
  split
  · show 1 ≤ 4
    omega
  · exact h.1
theorem dsh_mem {z : Str} (h : lowZ z 4) {c : Nat} (hc : c ∈ tlS (dsh z)) : c = 45 ∨ (97 ≤ c ∧ c ≤ 122) := by
  unfold dsh at hc
  split at hc
  · have hc : c ∈ [45] := hc
    exact .inl (List.mem_singleton.mp hc)
  · exact .inr (h.2 c hc)
theorem th_sz {t : List Str} (h : okT46 t) : szS "|" (t.map dsh) ≤ 20 := by
  have := sz_le (b := 4) (y := "|") (ps := t.map dsh) fun p hp => by
    obtain ⟨z, hz, rfl⟩ := List.mem_map.mp hp
    exact dsh_len (h.2.2 z hz)
  rw [List.length_map] at this
  have h4 := h.2.1
  have e : ("|" : Str).length = 1 := rfl
  rw [e] at this
  omega
theorem th_len {t : List Str} (h : okT46 t) : (thT t).length ≤ 20 := Nat.le_trans (join_len _ _) (th_sz h)
theorem th_mem {t : List Str} (h : okT46 t) {c : Nat} (hc : c ∈ tlS (thT t)) : c = 124 ∨ c = 45 ∨ (97 ≤ c ∧ c ≤ 122) := by
  rcases mem_joinS hc with hc | ⟨p, hp, hc⟩
  · have hc : c ∈ [124] := hc
    exact .inl (List.mem_singleton.mp hc)
  · obtain ⟨z, hz, rfl⟩ := List.mem_map.mp hp
    exact .inr (dsh_mem (h.2.2 z hz) hc)
structure okS46 (s : Stp) : Prop where
  nm : ∃ k, lookM mREADINGS' s.1 = some k ∧ (s.2.length : Int) = k
  rd : ∀ r ∈ s.2, okR46 r
theorem nm_low {s : Stp} (h : okS46 s) : lowZ s.1 5 ∧ s.2.length ≤ 3 := by
  obtain ⟨k, h1, h2⟩ := h.nm
  rcases read_cases h1 with ⟨w, e⟩ | ⟨w, e⟩ | ⟨w, e⟩ | ⟨w, e⟩ | ⟨w, e⟩ | ⟨w, e⟩ | ⟨w, e⟩ | ⟨w, e⟩ <;> (rw [w]; refine ⟨⟨by decide +kernel, by decide +kernel⟩, by omega⟩)
theorem st_sz {s : Stp} (h : okS46 s) : szS " " (s.1 :: s.2.map rdT) ≤ 24 := by
  obtain ⟨h1, h2⟩ := nm_low h
  have := sz_le (b := 5) (y := " ") (ps := s.1 :: s.2.map rdT) fun p hp => by
    rcases List.mem_cons.mp hp with rfl | hp
    · exact h1.1
    · obtain ⟨r, hr, rfl⟩ := List.mem_map.mp hp
      rw [rd_lenS (h.rd r hr)]
      omega
  rw [List.length_cons, List.length_map] at this
  have e : (" " : Str).length = 1 := rfl
  rw [e] at this
  omega
theorem st_lenS {s : Stp} (h : okS46 s) : (stT s).length ≤ 24 := Nat.le_trans (join_len _ _) (st_sz h)
theorem rd_mem {r : Rd} (h : okR46 r) {c : Nat} (hc : c ∈ tlS (rdT r)) : (48 ≤ c ∧ c ≤ 57) ∨ (97 ≤ c ∧ c ≤ 122) := by
  rw [rd_tl h] at hc
  have := h.2
  rcases List.mem_append.mp hc with hc | hc
  · split at hc
    · rw [List.mem_singleton.mp hc]; omega
    · rw [List.mem_singleton.mp hc]; omega
  · rw [List.mem_singleton.mp hc]
    omega
theorem st_mem {s : Stp} (h : okS46 s) {c : Nat} (hc : c ∈ tlS (stT s)) : c = 32 ∨ (48 ≤ c ∧ c ≤ 57) ∨ (97 ≤ c ∧ c ≤ 122) := by
  rcases mem_joinS hc with hc | ⟨p, hp, hc⟩
  · have hc : c ∈ [32] := hc
    exact .inl (List.mem_singleton.mp hc)
  · rcases List.mem_cons.mp hp with rfl | hp
    · exact .inr (.inr ((nm_low h).1.2 c hc))
    · obtain ⟨r, hr, rfl⟩ := List.mem_map.mp hp
      exact .inr (rd_mem (h.rd r hr) hc)
theorem dg_mem {k : Nat} (h : k < 10) {c : Nat} (hc : c ∈ tlS (dgS k)) : 48 ≤ c ∧ c ≤ 57 := by
  rw [dg_tl h] at hc
  rw [List.mem_singleton.mp hc]
  omega
end Sb

namespace Sb
open PySem PySem.Spec PyProof.Rows L2
/-! ### what the program writes and reads -/
theorem str_eq (neg : Bool) (x y : Str) : eqD neg (.str x) (.str y) = some (.bool (decide (x = y) != neg)) := rfl
theorem m_written_thing {t : List Str} (h : okT46 t) (n : Nat) : F_written_thing [.d (encT t)] n = some (.d (.str (thT t)), n) := by
  have hlc : ∀ (x0 : Option Sv) (t : List Str), lcL (tgN 1) [1] tT (fIf (bT (fOp2 (seeB (eqD false)) (fVar 1) (fC (.str "")))) (fC (.str "-")) (fVar 1)) (t.map PyData.str) [x0, none] n = some ((t.map dsh).map PyData.str, n) := fun x0 t => by
    induction t with
    | nil => rfl
    | cons z t ih =>
      have tt : bT (fOp2 (seeB (eqD false)) (fVar 1) (fC (.str ""))) [x0, some (.d (.str z))] n = some (decide (z = "") != false, n) := bt (cmp_ev (a := .str z) (b := .str "") rfl rfl (str_eq false z ""))
      rw [Bool.bne_false] at tt
      have hf : fIf (bT (fOp2 (seeB (eqD false)) (fVar 1) (fC (.str "")))) (fC (.str "-")) (fVar 1) [x0, some (.d (.str z))] n = some (.d (.str (dsh z)), n) := by
        refine if_evE tt (fun h => ?_) (fun h => ?_)
        · have h := of_decide_eq_true h
          unfold dsh
          rw [if_pos h]
          rfl
        · have h := of_decide_eq_false h
          unfold dsh
          rw [if_neg h]
          rfl
      exact lcL_cons (e1 := [x0, some (.d (.str z))]) rfl rfl hf ih
  have h4 := h.2.1
  have hl := lc_ev' (it := itSee (fVar 0)) (e := [some (.d (encT t)), none]) (n := n) (n1 := n) (xs := t.map PyData.str) rfl (len_big (by rw [List.length_map]; omega)) (hlc (some (.d (encT t))) t)
  have := th_sz h
  exact run_g rfl (g_ret (join_evS hl rfl (by omega)))
theorem rd_sem (x0 x1 x2 : Option Sv) {r : Rd} (h : okR46 r) (n : Nat) : fOp2 addL (fIxS mSIGNS (fVar 3)) (fBi (see1 strIG) (faCons (fVar 4) faNil)) [x0, x1, x2, some (.d (.str r.1)), some (.d (natD r.2))] n = some (.d (.str (rdT r)), n) := by
  have h1 : fIxS mSIGNS (fVar 3) [x0, x1, x2, some (.d (.str r.1)), some (.d (natD r.2))] n = some (.d (.str (sgS r.1)), n) := by
    rcases h.1 with w | w <;> (rw [w]; kernel_rfl)
  have h2 : fBi (see1 strIG) (faCons (fVar 4) faNil) [x0, x1, x2, some (.d (.str r.1)), some (.d (natD r.2))] n = some (.d (.str (dgS r.2)), n) := by
    refine ten (P := fun k => fBi (see1 strIG) (faCons (fVar 4) faNil) [x0, x1, x2, some (.d (.str r.1)), some (.d (natD k))] n = some (.d (.str (dgS k)), n)) ?_ ?_ ?_ ?_ ?_ ?_ ?_ ?_ ?_ ?_ r.2 h.2 <;> kernel_rfl
  have hs : (sgS r.1).length ≤ 1 := by
    unfold sgS
    split <;> exact Nat.le_refl _
  exact addS_ev h1 h2 (by rw [dg_len h.2]; omega)
theorem m_written_step {s : Stp} (h : okS46 s) (n : Nat) : F_written_step [.d (encS s)] n = some (.d (.str (stT s)), n) := by
  have hlc : ∀ (x0 x1 x2 : Option Sv) (rs : List Rd), (∀ r ∈ rs, okR46 r) → lcL (tgT [(tgN 3), (tgN 4)]) [3, 4] tT (fOp2 addL (fIxS mSIGNS (fVar 3)) (fBi (see1 strIG) (faCons (fVar 4) faNil))) (rs.map encR) [x0, x1, x2, none, none] n = some ((rs.map rdT).map PyData.str, n) := fun x0 x1 x2 rs => by
    induction rs with
    | nil => intro _; rfl
    | cons r rs ih => exact fun hr => lcL_cons (e1 := [x0, x1, x2, some (.d (.str r.1)), some (.d (natD r.2))]) rfl rfl (rd_sem x0 x1 x2 (hr r List.mem_cons_self) n) (ih fun x hx => hr x (List.mem_cons_of_mem _ hx))
  have h3 := (nm_low h).2
  let E : Ev := [some (.d (encS s)), some (.d (.str s.1)), some (.d (.tuple (s.2.map encR))), none, none]
  have hl := lc_ev' (it := itSee (fVar 2)) (e := E) (n := n) (n1 := n) (xs := s.2.map encR) rfl (len_big (by rw [List.length_map]; omega)) (hlc _ _ _ s.2 h.rd)
  have hc : fOp2 addL (fLst (faCons (fVar 1) faNil)) (fLc (itSee (fVar 2)) (tgT [(tgN 3), (tgN 4)]) [3, 4] tT (fOp2 addL (fIxS mSIGNS (fVar 3)) (fBi (see1 strIG) (faCons (fVar 4) faNil)))) E n = some (.cell ((s.1 :: s.2.map rdT).map PyData.str), n) := by
    have v : fLst (faCons (fVar 1) faNil) E n = some (.cell [.str s.1], n) := rfl
    have e1 : addL (.cell [.str s.1]) (.cell ((s.2.map rdT).map PyData.str)) = some (.cell ((s.1 :: s.2.map rdT).map PyData.str)) := by
      show (if [PyData.str s.1].length + ((s.2.map rdT).map PyData.str).length ≤ 100000 then some (Sv.cell ([PyData.str s.1] ++ (s.2.map rdT).map PyData.str)) else none) = _
      rw [if_pos (by rw [List.length_map, List.length_map, List.length_singleton]; omega)]
      rfl
    simp only [fOp2, v, hl, e1]
  have := st_sz h
  refine run_g rfl (g_setT (x := encS s) (n1 := n) (e1 := E) rfl rfl (g_ret (join_evS hc rfl (by omega))))
structure ok46 (R : Rc) : Prop where
  t5 : R.ts.length ≤ 5
  s8 : R.ss.length ≤ 8
  m3 : R.ms.length ≤ 3
  ts : ∀ t ∈ R.ts, okT46 t
  ss : ∀ s ∈ R.ss, okS46 s
  ms : ∀ m ∈ R.ms, m < 10
  t1 : R.ts ≠ []
  s1 : R.ss ≠ []
  m1 : R.ms ≠ []
theorem sz0 {R : Rc} (h : ok46 R) : szS ", " (R.ts.map thT) ≤ 110 := by
  have := sz_le (b := 20) (y := ", ") (ps := R.ts.map thT) fun p hp => by
    obtain ⟨z, hz, rfl⟩ := List.mem_map.mp hp
    exact th_len (h.ts z hz)
  rw [List.length_map] at this
  have e : (", " : Str).length = 2 := rfl
  have t5 := h.t5
  rw [e] at this
  omega
theorem sz1 {R : Rc} (h : ok46 R) : szS ", " (R.ss.map stT) ≤ 208 := by
  have := sz_le (b := 24) (y := ", ") (ps := R.ss.map stT) fun p hp => by
    obtain ⟨z, hz, rfl⟩ := List.mem_map.mp hp
    exact st_lenS (h.ss z hz)
  rw [List.length_map] at this
  have e : (", " : Str).length = 2 := rfl
  have t5 := h.s8
  rw [e] at this
  omega
theorem sz2 {R : Rc} (h : ok46 R) : szS ", " (R.ms.map dgS) ≤ 9 := by
  have := sz_le (b := 1) (y := ", ") (ps := R.ms.map dgS) fun p hp => by
    obtain ⟨z, hz, rfl⟩ := List.mem_map.mp hp
    rw [dg_len (h.ms z hz)]
    omega
  rw [List.length_map] at this
  have e : (", " : Str).length = 2 := rfl
  have t5 := h.m3
  rw [e] at this
  omega
theorem part_len {R : Rc} (h : ok46 R) : ∀ p ∈ wrP R, p.length ≤ 208 := by
  unfold wrP
  have a := join_len ", " (R.ts.map thT)
  have b := join_len ", " (R.ss.map stT)
  have c := join_len ", " (R.ms.map dgS)
  have a2 := sz0 h
  have b2 := sz1 h
  have c2 := sz2 h
  exact List.forall_mem_cons.mpr ⟨by omega, List.forall_mem_cons.mpr ⟨by omega, List.forall_mem_cons.mpr ⟨by omega, fun p hp => nomatch hp⟩⟩⟩
theorem sz3 {R : Rc} (h : ok46 R) : szS "; " (wrP R) ≤ 700 := by
  have := sz_le (b := 208) (y := "; ") (ps := wrP R) (part_len h)
  have e : ("; " : Str).length = 2 := rfl
  have e2 : (wrP R).length = 3 := rfl
  rw [e, e2] at this
  omega
theorem wr_len {R : Rc} (h : ok46 R) : (wrT R).length ≤ 700 := Nat.le_trans (join_len _ _) (sz3 h)
theorem m_written {R : Rc} (h : ok46 R) (n : Nat) : F_written [.d R.enc] n = some (.d (.str (wrT R)), n) := by
  let E : Ev := [some (.d R.enc), some (.d (.tuple (R.ts.map encT))), some (.d (.tuple (R.ss.map encS))), some (.d (.tuple (R.ms.map natD))), none, none, none]
  have h1 : ∀ ts : List (List Str), (∀ t ∈ ts, okT46 t) → lcL (tgN 4) [4] tT (fCall 1 F_written_thing (faCons (fVar 4) faNil)) (ts.map encT) E n = some ((ts.map thT).map PyData.str, n) := fun ts => by
    induction ts with
    | nil => intro _; rfl
    | cons t ts ih => exact fun ht => lcL_cons (e1 := E.set 4 (some (.d (encT t)))) rfl rfl (call_ev (F := F_written_thing) (np := 1) (as := [.d (encT t)]) rfl rfl (m_written_thing (ht t List.mem_cons_self) n)) (ih fun x hx => ht x (List.mem_cons_of_mem _ hx))
  have h2 : ∀ ts : List Stp, (∀ t ∈ ts, okS46 t) → lcL (tgN 5) [5] tT (fCall 1 F_written_step (faCons (fVar 5) faNil)) (ts.map encS) E n = some ((ts.map stT).map PyData.str, n) := fun ts => by
    induction ts with
    | nil => intro _; rfl
    | cons t ts ih => exact fun ht => lcL_cons (e1 := E.set 5 (some (.d (encS t)))) rfl rfl (call_ev (F := F_written_step) (np := 1) (as := [.d (encS t)]) rfl rfl (m_written_step (ht t List.mem_cons_self) n)) (ih fun x hx => ht x (List.mem_cons_of_mem _ hx))
  have h3 : ∀ ts : List Nat, (∀ t ∈ ts, t < 10) → lcL (tgN 6) [6] tT (fBi (see1 strIG) (faCons (fVar 6) faNil)) (ts.map natD) E n = some ((ts.map dgS).map PyData.str, n) := fun ts => by
    induction ts with
    | nil => intro _; rfl
    | cons t ts ih => exact fun ht => lcL_cons (e1 := E.set 6 (some (.d (natD t)))) rfl rfl (by
        refine ten (P := fun k => fBi (see1 strIG) (faCons (fVar 6) faNil) (E.set 6 (some (.d (natD k)))) n = some (.d (.str (dgS k)), n)) ?_ ?_ ?_ ?_ ?_ ?_ ?_ ?_ ?_ ?_ t (ht t List.mem_cons_self) <;> kernel_rfl) (ih fun x hx => ht x (List.mem_cons_of_mem _ hx))
  have t5 := h.t5
  have s8 := h.s8
  have m3 := h.m3
  have l1 := lc_ev' (it := itSee (fVar 1)) (e := E) (n := n) (n1 := n) (xs := R.ts.map encT) rfl (len_big (by rw [List.length_map]; omega)) (h1 R.ts h.ts)
  have l2 := lc_ev' (it := itSee (fVar 2)) (e := E) (n := n) (n1 := n) (xs := R.ss.map encS) rfl (len_big (by rw [List.length_map]; omega)) (h2 R.ss h.ss)
  have l3 := lc_ev' (it := itSee (fVar 3)) (e := E) (n := n) (n1 := n) (xs := R.ms.map natD) rfl (len_big (by rw [List.length_map]; omega)) (h3 R.ms h.ms)
  have a := sz0 h
  have b := sz1 h
  have c := sz2 h
  have d := sz3 h
  have j1 := join_evS (y := ", ") l1 rfl (by omega)
  have j2 := join_evS (y := ", ") l2 rfl (by omega)
  have j3 := join_evS (y := ", ") l3 rfl (by omega)
  have hL := lst_evR (fa_c j1 (fa_c j2 (fa_c j3 fa_n))) (xs := (wrP R).map PyData.str) rfl (by show 3 ≤ 1000; omega)
  exact run_g rfl (g_setT (x := R.enc) (n1 := n) (e1 := E) rfl rfl (g_ret (join_evS hL rfl (by omega))))
end Sb

namespace Sb
open PySem PySem.Spec PyProof.Rows L2
/-! ### texts of recipes, read back -/
theorem m_read_number {k : Nat} (h : k < 10) (n : Nat) : F_read_number [.d (.str (dgS k))] n = some (.d (natD k), n) := by
  refine ten (P := fun k => F_read_number [.d (.str (dgS k))] n = some (.d (natD k), n)) ?_ ?_ ?_ ?_ ?_ ?_ ?_ ?_ ?_ ?_ k h <;> kernel_rfl
theorem m_read_reading {r : Rd} (h : okR46 r) (n : Nat) : F_read_reading [.d (.str (rdT r))] n = some (.d (encR r), n) := by
  obtain ⟨w, k⟩ := r
  obtain ⟨hw, hk⟩ := h
  have hw : w = "thing" ∨ w = "step" := hw
  have hk : k < 10 := hk
  rcases hw with rfl | rfl
  · refine ten (P := fun k => F_read_reading [.d (.str (rdT ("thing", k)))] n = some (.d (encR ("thing", k)), n)) ?_ ?_ ?_ ?_ ?_ ?_ ?_ ?_ ?_ ?_ k hk <;> kernel_rfl
  · refine ten (P := fun k => F_read_reading [.d (.str (rdT ("step", k)))] n = some (.d (encR ("step", k)), n)) ?_ ?_ ?_ ?_ ?_ ?_ ?_ ?_ ?_ ?_ k hk <;> kernel_rfl
theorem split_thT {t : List Str} (h : okT46 t) : Txt.split (thT t) "|" = t.map dsh := by
  refine TL.split_join (y := "|") (s := 124) (S := []) rfl (by decide +kernel) (fun e => ?_) fun p hp hc => ?_
  · have h1 := h.1
    rw [List.map_eq_nil_iff.mp e] at h1
    exact absurd h1 (by decide)
  · obtain ⟨z, hz, rfl⟩ := List.mem_map.mp hp
    rcases dsh_mem (h.2.2 z hz) hc with h | h <;> omega
theorem dsh_back {z : Str} (h : lowZ z 4) : (if dsh z = "-" then ("" : Str) else dsh z) = z := by
  unfold dsh
  by_cases e : z = ""
  · rw [if_pos e, if_pos rfl, e]
  · rw [if_neg e, if_neg]
    intro e2
    have := h.2 45 (by rw [e2]; exact List.mem_singleton.mpr rfl)
    omega
theorem m_read_thing {t : List Str} (h : okT46 t) (n : Nat) : F_read_thing [.d (.str (thT t))] n = some (.d (encT t), n) := by
  have hlen := th_len h
  have hs : fMt "str" splitG (fVar 0) (faCons (fC (.str "|")) faNil) [some (.d (.str (thT t))), none] n = some (.cell ((t.map dsh).map PyData.str), n) := by
    have := split_evS (f := fVar 0) (e := [some (.d (.str (thT t))), none]) (n := n) (x := thT t) (y := "|") rfl (by decide +kernel) (by omega)
    rw [split_thT h] at this
    exact this
  have hit : itSee (fMt "str" splitG (fVar 0) (faCons (fC (.str "|")) faNil)) [some (.d (.str (thT t))), none] n = some ((t.map dsh).map PyData.str, n) := by simp only [itSee, hs]
  have hlc : ∀ (x0 : Option Sv) (t : List Str), (∀ z ∈ t, lowZ z 4) → lcL (tgN 1) [1] tT (fIf (bT (fOp2 (seeB (eqD false)) (fVar 1) (fC (.str "-")))) (fC (.str "")) (fVar 1)) ((t.map dsh).map PyData.str) [x0, none] n = some (t.map PyData.str, n) := fun x0 t => by
    induction t with
    | nil => intro _; rfl
    | cons z t ih =>
      intro hz
      have tt : bT (fOp2 (seeB (eqD false)) (fVar 1) (fC (.str "-"))) [x0, some (.d (.str (dsh z)))] n = some (decide (dsh z = "-") != false, n) := bt (cmp_ev (a := .str (dsh z)) (b := .str "-") rfl rfl (str_eq false _ "-"))
      rw [Bool.bne_false] at tt
      have hb := dsh_back (hz z List.mem_cons_self)
      have hf : fIf (bT (fOp2 (seeB (eqD false)) (fVar 1) (fC (.str "-")))) (fC (.str "")) (fVar 1) [x0, some (.d (.str (dsh z)))] n = some (.d (.str z), n) := by
        refine if_evE tt (fun h => ?_) (fun h => ?_)
        · rw [if_pos (of_decide_eq_true h)] at hb
          rw [← hb]
          rfl
        · rw [if_neg (of_decide_eq_false h)] at hb
          show some (Sv.d (.str (dsh z)), n) = _
          rw [hb]
      exact lcL_cons (e1 := [x0, some (.d (.str (dsh z)))]) rfl rfl hf (ih fun x hx => hz x (List.mem_cons_of_mem _ hx))
  have h4 := h.2.1
  have hl := lc_ev' hit (len_big (by rw [List.length_map, List.length_map]; omega)) (hlc _ t h.2.2)
  exact run_g rfl (g_ret (tup_ev (.inl hl)))
theorem split_stT {s : Stp} (h : okS46 s) : Txt.split (stT s) " " = s.1 :: s.2.map rdT := by
  refine TL.split_join (y := " ") (s := 32) (S := []) rfl (by decide +kernel) (List.cons_ne_nil _ _) fun p hp hc => ?_
  rcases List.mem_cons.mp hp with rfl | hp
  · have := (nm_low h).1.2 32 hc
    omega
  · obtain ⟨r, hr, rfl⟩ := List.mem_map.mp hp
    have := rd_mem (h.rd r hr) hc
    omega
theorem cut_dr92 (xs : List PyData) : cutD xs (some ((1 : Nat) : Int)) none = xs.drop 1 := by
  unfold cutD
  rw [HT.sIx_none, HT.sIx_nat]
  by_cases h : 1 ≤ xs.length
  · rw [Nat.min_eq_left h, List.take_of_length_le (by rw [List.length_drop]; omega)]
  · rw [Nat.min_eq_right (by omega), List.drop_of_length_le (Nat.le_refl _), List.drop_of_length_le (by omega), List.take_nil]
theorem m_read_step {s : Stp} (h : okS46 s) (n : Nat) : F_read_step [.d (.str (stT s))] n = some (.d (encS s), n) := by
  have hlen := st_lenS h
  have h3 := (nm_low h).2
  let W : List PyData := (s.1 :: s.2.map rdT).map PyData.str
  have hs : fMt "str" splitG (fVar 0) (faCons (fC (.str " ")) faNil) [some (.d (.str (stT s))), none, none] n = some (.cell W, n) := by
    have := split_evS (f := fVar 0) (e := [some (.d (.str (stT s))), none, none]) (n := n) (x := stT s) (y := " ") rfl (by decide +kernel) (by omega)
    rw [split_stT h] at this
    exact this
  let E : Ev := [some (.d (.str (stT s))), some (.d (.list W)), none]
  have hc : fSl (fVar 1) (oSome (fC (.int 1))) oNone E n = some (.cell (cutD W (some ((1 : Nat) : Int)) none), n) := rfl
  rw [cut_dr92] at hc
  have hc : fSl (fVar 1) (oSome (fC (.int 1))) oNone E n = some (.cell ((s.2.map rdT).map PyData.str), n) := hc
  have hit : itSee (fSl (fVar 1) (oSome (fC (.int 1))) oNone) E n = some ((s.2.map rdT).map PyData.str, n) := by simp only [itSee, hc]
  have hlc : ∀ rs : List Rd, (∀ r ∈ rs, okR46 r) → lcL (tgN 2) [2] tT (fCall 1 F_read_reading (faCons (fVar 2) faNil)) ((rs.map rdT).map PyData.str) E n = some (rs.map encR, n) := fun rs => by
    induction rs with
    | nil => intro _; rfl
    | cons r rs ih => exact fun hr => lcL_cons (e1 := [some (.d (.str (stT s))), some (.d (.list W)), some (.d (.str (rdT r)))]) rfl rfl (call_ev (F := F_read_reading) (np := 1) (as := [.d (.str (rdT r))]) rfl rfl (m_read_reading (hr r List.mem_cons_self) n)) (ih fun x hx => hr x (List.mem_cons_of_mem _ hx))
  have hl := tup_ev (.inl (lc_ev' hit (len_big (by rw [List.length_map, List.length_map]; omega)) (hlc s.2 h.rd)))
  have h0 : fOp2 (seeB ixD) (fVar 1) (fC (.int 0)) E n = some (.d (.str s.1), n) := cmp_ev (a := .list W) (b := .int ((0 : Nat) : Int)) rfl rfl (int_ix (ds := W) (j := 0) (.inr rfl) rfl)
  exact run_g rfl (g_set (sv := .cell W) (n1 := n) hs rfl (g_frz (g_ret (tupN_ev (fa_c h0 (fa_c hl fa_n)) rfl (by show 2 ≤ 1000; omega)))))
/-! the whole -/
theorem sep_split {ps : List Str} (hne : ps ≠ []) (hp : ∀ p ∈ ps, 44 ∉ tlS p) : Txt.split (Txt.join ", " ps) ", " = ps := TL.split_join (y := ", ") (s := 44) (S := [32]) rfl (by decide +kernel) hne hp
theorem wr_split {R : Rc} (h : ok46 R) : Txt.split (wrT R) "; " = wrP R := by
  refine TL.split_join (y := "; ") (s := 59) (S := [32]) rfl (by decide +kernel) (List.cons_ne_nil _ _) ?_
  have sep : ∀ c, c ∈ tlS (", " : Str) → c = 44 ∨ c = 32 := fun c hc => by
    have hc : c ∈ [44, 32] := hc
    rcases List.mem_cons.mp hc with h | h
    · exact .inl h
    · exact .inr (List.mem_singleton.mp h)
  unfold wrP
  refine List.forall_mem_cons.mpr ⟨fun hc => ?_, List.forall_mem_cons.mpr ⟨fun hc => ?_, List.forall_mem_cons.mpr ⟨fun hc => ?_, fun p hp => nomatch hp⟩⟩⟩
  · rcases mem_joinS hc with hc | ⟨p, hp, hc⟩
    · rcases sep _ hc with h | h <;> omega
    · obtain ⟨t, ht, rfl⟩ := List.mem_map.mp hp
      rcases th_mem (h.ts t ht) hc with h | h | h <;> omega
  · rcases mem_joinS hc with hc | ⟨p, hp, hc⟩
    · rcases sep _ hc with h | h <;> omega
    · obtain ⟨t, ht, rfl⟩ := List.mem_map.mp hp
      rcases st_mem (h.ss t ht) hc with h | h | h <;> omega
  · rcases mem_joinS hc with hc | ⟨p, hp, hc⟩
    · rcases sep _ hc with h | h <;> omega
    · obtain ⟨t, ht, rfl⟩ := List.mem_map.mp hp
      have := dg_mem (h.ms t ht) hc
      omega
theorem m_parse {R : Rc} (hR : R.Ok) (h : ok46 R) (n : Nat) : F_parse_recipe [.d (.str (wrT R))] n = some (.d R.enc, n) := by
  have hw := wr_len h
  let E : Option Sv → Option Sv → Option Sv → Option Sv → Ev := fun a b c d => [some (.d (.str (wrT R))), some (.cell ((wrP R).map PyData.str)), a, b, c, d, none]
  have hs : fMt "str" splitG (fVar 0) (faCons (fC (.str "; ")) faNil) [some (.d (.str (wrT R))), none, none, none, none, none, none] n = some (.cell ((wrP R).map PyData.str), n) := by
    have := split_evS (f := fVar 0) (e := [some (.d (.str (wrT R))), none, none, none, none, none, none]) (n := n) (x := wrT R) (y := "; ") rfl (by decide +kernel) (by omega)
    rw [wr_split h] at this
    exact this
  have pl := part_len h
  have sp : ∀ (i : Int) (ps : List Str) (a b c d : Option Sv), ps ≠ [] → (∀ p ∈ ps, 44 ∉ tlS p) → fOp2 (seeB ixD) (fVar 1) (fC (.int i)) (E a b c d) n = some (.d (.str (Txt.join ", " ps)), n) → (Txt.join ", " ps).length ≤ 208 → itSee (fMt "str" splitG (fOp2 (seeB ixD) (fVar 1) (fC (.int i))) (faCons (fC (.str ", ")) faNil)) (E a b c d) n = some (ps.map PyData.str, n) := fun i ps a b c d hne hp hi hl => by
    have := split_evS (y := ", ") hi (by decide +kernel) (by omega)
    rw [sep_split hne hp] at this
    simp only [itSee, this]
  have t5 := h.t5
  have s8 := h.s8
  have m3 := h.m3
  have i0 := sp 0 (R.ts.map thT) none none none none (fun e => h.t1 (List.map_eq_nil_iff.mp e)) (fun p hp hc => by
    obtain ⟨t, ht, rfl⟩ := List.mem_map.mp hp
    rcases th_mem (h.ts t ht) hc with h | h | h <;> omega) rfl (pl _ List.mem_cons_self)
  have i1 := fun a => sp 1 (R.ss.map stT) a none none none (fun e => h.s1 (List.map_eq_nil_iff.mp e)) (fun p hp hc => by
    obtain ⟨t, ht, rfl⟩ := List.mem_map.mp hp
    rcases st_mem (h.ss t ht) hc with h | h | h <;> omega) rfl (pl _ (List.mem_cons_of_mem _ List.mem_cons_self))
  have i2 := fun a b => sp 2 (R.ms.map dgS) a b none none (fun e => h.m1 (List.map_eq_nil_iff.mp e)) (fun p hp hc => by
    obtain ⟨t, ht, rfl⟩ := List.mem_map.mp hp
    have := dg_mem (h.ms t ht) hc
    omega) rfl (pl _ (List.mem_cons_of_mem _ (List.mem_cons_of_mem _ List.mem_cons_self)))
  have c0 : ∀ (a b c d : Option Sv) (ts : List (List Str)), (∀ t ∈ ts, okT46 t) → lcL (tgN 6) [6] tT (fCall 1 F_read_thing (faCons (fVar 6) faNil)) ((ts.map thT).map PyData.str) (E a b c d) n = some (ts.map encT, n) := fun a b c d ts => by
    induction ts with
    | nil => intro _; rfl
    | cons t ts ih => exact fun ht => lcL_cons (e1 := (E a b c d).set 6 (some (.d (.str (thT t))))) rfl rfl (call_ev (F := F_read_thing) (np := 1) (as := [.d (.str (thT t))]) rfl rfl (m_read_thing (ht t List.mem_cons_self) n)) (ih fun x hx => ht x (List.mem_cons_of_mem _ hx))
  have c1 : ∀ (a b c d : Option Sv) (ts : List Stp), (∀ t ∈ ts, okS46 t) → lcL (tgN 6) [6] tT (fCall 1 F_read_step (faCons (fVar 6) faNil)) ((ts.map stT).map PyData.str) (E a b c d) n = some (ts.map encS, n) := fun a b c d ts => by
    induction ts with
    | nil => intro _; rfl
    | cons t ts ih => exact fun ht => lcL_cons (e1 := (E a b c d).set 6 (some (.d (.str (stT t))))) rfl rfl (call_ev (F := F_read_step) (np := 1) (as := [.d (.str (stT t))]) rfl rfl (m_read_step (ht t List.mem_cons_self) n)) (ih fun x hx => ht x (List.mem_cons_of_mem _ hx))
  have c2 : ∀ (a b c d : Option Sv) (ts : List Nat), (∀ t ∈ ts, t < 10) → lcL (tgN 6) [6] tT (fCall 1 F_read_number (faCons (fVar 6) faNil)) ((ts.map dgS).map PyData.str) (E a b c d) n = some (ts.map natD, n) := fun a b c d ts => by
    induction ts with
    | nil => intro _; rfl
    | cons t ts ih => exact fun ht => lcL_cons (e1 := (E a b c d).set 6 (some (.d (.str (dgS t))))) rfl rfl (call_ev (F := F_read_number) (np := 1) (as := [.d (.str (dgS t))]) rfl rfl (m_read_number (ht t List.mem_cons_self) n)) (ih fun x hx => ht x (List.mem_cons_of_mem _ hx))
  have l0 := lc_ev' i0 (len_big (by rw [List.length_map, List.length_map]; omega)) (c0 none none none none R.ts h.ts)
  let T : Option Sv := some (.cell (R.ts.map encT))
  let S : Option Sv := some (.cell (R.ss.map encS))
  let M : Option Sv := some (.cell (R.ms.map natD))
  have l1 := lc_ev' (i1 T) (len_big (by rw [List.length_map, List.length_map]; omega)) (c1 T none none none R.ss h.ss)
  have l2 := lc_ev' (i2 T S) (len_big (by rw [List.length_map, List.length_map]; omega)) (c2 T S none none R.ms h.ms)
  have hrec := m_is_recipe R.enc n hR.sm
  rw [hR.rd] at hrec
  have t1 := notb (call_ev (F := F_is_recipe) (np := 1) (fa := faCons (fVar 5) faNil) (e := E T S M (some (.d R.enc))) (n := n) (as := [.d R.enc]) rfl rfl hrec)
  have t2 := bt (cmp_ev (g := eqD true) (fb := fVar 0) (n2 := n) (call_ev (F := F_written) (np := 1) (fa := faCons (fVar 5) faNil) (e := E T S M (some (.d R.enc))) (n := n) (as := [.d R.enc]) rfl rfl (m_written h n)) (b := .str (wrT R)) rfl (str_eq true _ _))
  rw [decide_eq_true rfl] at t2
  refine run_g rfl (g_no (n1 := n) rfl (g_set (sv := .cell ((wrP R).map PyData.str)) (n1 := n) hs rfl (g_no (n1 := n) (by kernel_rfl) (g_set (sv := .cell (R.ts.map encT)) (n1 := n) l0 rfl (g_set (sv := .cell (R.ss.map encS)) (n1 := n) l1 rfl (g_set (sv := .cell (R.ms.map natD)) (n1 := n) l2 rfl (g_set (sv := .d R.enc) (n1 := n) ?_ rfl (g_no (n1 := n) ((or_t t1).trans t2) ⟨_, rfl⟩))))))))
  rfl
end Sb

namespace Sb
open PySem PySem.Spec PyProof.Rows L2
/-! ### k46's law -/
theorem g_st46 {s rest : FS} {e e1 : Ev} {n n1 : Nat} {v : Sv} {n' : Nat} (h : s e n = some (.nx, e1, n1)) (k : Gives rest e1 n1 v n') : Gives (sSeq s rest) e n v n' := by
  obtain ⟨e', q⟩ := k
  exact ⟨e', seq_q h q⟩
theorem ok46_of {R : Rc} (hR : R.Ok) : ok46 R := by
  have t5 := hR.t5
  have s8 := hR.s8
  refine ⟨hR.t5, hR.s8, hR.m3, fun t ht => hR.th t ht, fun s hs => ?_, fun m hm => ?_, fun e => ?_, fun e => ?_, fun e => ?_⟩
  · obtain ⟨j, hj⟩ := List.getElem?_of_mem hs
    have hjl := (List.getElem?_eq_some_iff.mp hj).1
    obtain ⟨h1, h2⟩ := hR.st j s hj
    refine ⟨⟨_, h1, rfl⟩, fun r hr => ?_⟩
    rcases h2 r hr with ⟨w, hl⟩ | ⟨w, hl⟩
    · exact ⟨.inl w, by omega⟩
    · exact ⟨.inr w, by omega⟩
  · have := hR.md m hm
    omega
  · have := hR.t1
    rw [e] at this
    exact absurd this (by decide)
  · have := hR.s1
    rw [e] at this
    exact absurd this (by decide)
  · have := hR.m1
    rw [e] at this
    exact absurd this (by decide)
def E46 (ns : List Int) (R : Rc) (x6 x7 x8 x9 x10 x11 x12 x13 x14 : Option Sv) : Ev := [some (.d (scriptD ns)), some .st, some (.d R.enc), some (.d (.tuple (R.ts.map encT))), some (.d (.tuple (R.ss.map encS))), some (.d (.tuple (R.ms.map natD))), x6, x7, x8, x9, x10, x11, x12, x13, x14]
theorem len0 {z : Str} : z.length = 0 ↔ z = "" := by
  constructor
  · intro h
    rw [len_tl] at h
    exact str_ext (List.length_eq_zero_iff.mp h)
  · intro h
    rw [h]
    rfl
def thF : FE := (fMt "str" joinG (fC (.str "|")) (faCons (fLc (itSee (fVar 7)) (tgN 8) [8] tT (fIf (bT (fOp2 (seeB (ordD .Gt)) (lenS (faCons (fVar 8) faNil)) (fC (.int 0)))) (fVar 8) (fC (.str "-")))) faNil))
theorem th_row (ns : List Int) (R : Rc) (x6 : Option Sv) {t : List Str} (h : okT46 t) (n : Nat) : thF (E46 ns R x6 (some (.d (encT t))) none none none none none none none) n = some (.d (.str (thT t)), n) := by
  have hlc : ∀ (ts : List Str), (∀ z ∈ ts, lowZ z 4) → lcL (tgN 8) [8] tT (fIf (bT (fOp2 (seeB (ordD .Gt)) (lenS (faCons (fVar 8) faNil)) (fC (.int 0)))) (fVar 8) (fC (.str "-"))) (ts.map PyData.str) (E46 ns R x6 (some (.d (encT t))) none none none none none none none) n = some ((ts.map dsh).map PyData.str, n) := fun ts => by
    induction ts with
    | nil => intro _; rfl
    | cons z ts ih =>
      intro hz
      have hz0 := hz z List.mem_cons_self
      have hl : lenS (faCons (fVar 8) faNil) (E46 ns R x6 (some (.d (encT t))) (some (.d (.str z))) none none none none none none) n = some (.d (.int (z.length : Int)), n) := len_ev (x := .str z) rfl (by
        show (if z.length ≤ big then some (Sv.d (.int z.length)) else none) = _
        rw [if_pos (Nat.le_trans hz0.1 (by decide))])
      have tt := bt (cmp_ev (g := ordD .Gt) (fb := fC (.int 0)) (n2 := n) hl (b := .int 0) rfl (ordGt_int _ _))
      have hf : fIf (bT (fOp2 (seeB (ordD .Gt)) (lenS (faCons (fVar 8) faNil)) (fC (.int 0)))) (fVar 8) (fC (.str "-")) (E46 ns R x6 (some (.d (encT t))) (some (.d (.str z))) none none none none none none) n = some (.d (.str (dsh z)), n) := by
        refine if_evE tt (fun h => ?_) (fun h => ?_)
        · have h := of_decide_eq_true h
          have hne : z ≠ "" := fun e => by
            rw [len0.mpr e] at h
            exact absurd h (by decide)
          unfold dsh
          rw [if_neg hne]
          rfl
        · have h := of_decide_eq_false h
          have he : z = "" := len0.mp (by omega)
          unfold dsh
          rw [if_pos he]
          rfl
      exact lcL_cons (e1 := E46 ns R x6 (some (.d (encT t))) (some (.d (.str z))) none none none none none none) rfl rfl hf (ih fun x hx => hz x (List.mem_cons_of_mem _ hx))
  have h4 := h.2.1
  have hl := lc_ev' (it := itSee (fVar 7)) (n := n) (n1 := n) (xs := t.map PyData.str) rfl (len_big (by rw [List.length_map]; omega)) (hlc t h.2.2)
  have := th_sz h
  exact join_evS hl rfl (by omega)
theorem th_loop (ns : List Int) (R : Rc) (n : Nat) : ∀ (ts : List (List Str)) (acc : List Str), (∀ t ∈ ts, okT46 t) → acc.length + ts.length ≤ 1000 → forL (tgN 7) [7] (sApp 6 thF) (ts.map encT) (E46 ns R (some (.cell (acc.map PyData.str))) none none none none none none none none) n = some (.nx, E46 ns R (some (.cell ((acc ++ ts.map thT).map PyData.str))) none none none none none none none none, n)
  | [], acc, _, _ => by
    rw [List.map_nil, List.map_nil, List.append_nil]
    rfl
  | t :: ts, acc, h, hl => by
    rw [List.length_cons] at hl
    have hb := app_ev (i := 6) (xs := acc.map PyData.str) (th_row ns R (some (.cell (acc.map PyData.str))) (h t List.mem_cons_self) n) rfl (by rw [List.length_map]; show _ < 100000; omega)
    have e : acc.map PyData.str ++ [PyData.str (thT t)] = (acc ++ [thT t]).map PyData.str := by rw [List.map_append]; rfl
    rw [e] at hb
    have ih := th_loop ns R n ts (acc ++ [thT t]) (fun x hx => h x (List.mem_cons_of_mem _ hx)) (by rw [List.length_append, List.length_singleton]; omega)
    rw [List.append_assoc] at ih
    exact forL_c (e1 := E46 ns R (some (.cell (acc.map PyData.str))) (some (.d (encT t))) none none none none none none none) rfl hb rfl ih
/-! steps -/
def wsS (w : Str) : Str := if w = "thing" then " t" else " s"
def rowF (a : Str) (rs : List Rd) : Str := rs.foldl (fun a r => (a ++ wsS r.1) ++ dgS r.2) a
def inB : FS := (sAsg 11 (fOp2 addL (fOp2 addL (fVar 11) (fIf (bT (fOp2 (seeB (eqD false)) (fVar 12) (fC (.str "thing")))) (fC (.str " t")) (fC (.str " s")))) (fBi (see1 strIG) (faCons (fVar 13) faNil))))
theorem ws_len (w : Str) : (wsS w).length = 2 := by
  unfold wsS
  split <;> rfl
theorem in_loop (ns : List Int) (R : Rc) (x6 x8 x9 x10 : Option Sv) (n : Nat) : ∀ (rs : List Rd) (a : Str), (∀ r ∈ rs, okR46 r) → a.length + 3 * rs.length ≤ 1000 → forL (tgT [(tgN 12), (tgN 13)]) [12, 13] inB (rs.map encR) (E46 ns R x6 none x8 x9 x10 (some (.d (.str a))) none none none) n = some (.nx, E46 ns R x6 none x8 x9 x10 (some (.d (.str (rowF a rs)))) none none none, n)
  | [], a, _, _ => rfl
  | r :: rs, a, h, hl => by
    have hr := h r List.mem_cons_self
    rw [List.length_cons] at hl
    let e : Ev := E46 ns R x6 none x8 x9 x10 (some (.d (.str a))) (some (.d (.str r.1))) (some (.d (natD r.2))) none
    have h1 : fIf (bT (fOp2 (seeB (eqD false)) (fVar 12) (fC (.str "thing")))) (fC (.str " t")) (fC (.str " s")) e n = some (.d (.str (wsS r.1)), n) := by
      have t := bt (cmp_ev (g := eqD false) (fa := fVar 12) (fb := fC (.str "thing")) (e := e) (n := n) (n1 := n) (n2 := n) (a := .str r.1) (b := .str "thing") rfl rfl (str_eq false _ _))
      rw [Bool.bne_false] at t
      refine if_evE t (fun h => ?_) (fun h => ?_)
      · unfold wsS
        rw [if_pos (of_decide_eq_true h)]
        rfl
      · unfold wsS
        rw [if_neg (of_decide_eq_false h)]
        rfl
    have h2 : fBi (see1 strIG) (faCons (fVar 13) faNil) e n = some (.d (.str (dgS r.2)), n) := by
      refine ten (P := fun k => fBi (see1 strIG) (faCons (fVar 13) faNil) (E46 ns R x6 none x8 x9 x10 (some (.d (.str a))) (some (.d (.str r.1))) (some (.d (natD k))) none) n = some (.d (.str (dgS k)), n)) ?_ ?_ ?_ ?_ ?_ ?_ ?_ ?_ ?_ ?_ r.2 hr.2 <;> kernel_rfl
    have wl := ws_len r.1
    have dl := dg_len hr.2
    have v : fVar 11 e n = some (.d (.str a), n) := rfl
    have a1 := addS_ev v h1 (by omega)
    have al : (a ++ wsS r.1).length = a.length + 2 := by rw [len_tl, tl_app, List.length_append, ← len_tl, ← len_tl, wl]
    have a2 := addS_ev a1 h2 (by omega)
    have al2 : ((a ++ wsS r.1) ++ dgS r.2).length = a.length + 3 := by rw [len_tl, tl_app, List.length_append, ← len_tl, ← len_tl, al, dl]
    have hb : inB e n = some (.nx, E46 ns R x6 none x8 x9 x10 (some (.d (.str ((a ++ wsS r.1) ++ dgS r.2)))) (some (.d (.str r.1))) (some (.d (natD r.2))) none, n) := setV a2 rfl
    exact forL_c (e1 := e) rfl hb rfl (in_loop ns R x6 x8 x9 x10 n rs ((a ++ wsS r.1) ++ dgS r.2) (fun x hx => h x (List.mem_cons_of_mem _ hx)) (by omega))
theorem push_joinL (S a z : List Nat) : ∀ r : List (List Nat), TL.joinL S ((a ++ (S ++ z)) :: r) = a ++ (S ++ TL.joinL S (z :: r))
  | [] => rfl
  | q :: r => by
    show (a ++ (S ++ z)) ++ (S ++ TL.joinL S (q :: r)) = a ++ (S ++ (z ++ (S ++ TL.joinL S (q :: r))))
    simp only [List.append_assoc]
theorem row_is : ∀ (rs : List Rd) (a : Str), rowF a rs = Txt.join " " (a :: rs.map rdT)
  | [], a => by
    refine str_ext ?_
    show tlS a = tlS (Txt.join " " [a])
    rw [tl_joinS]
    rfl
  | r :: rs, a => by
    show rowF ((a ++ wsS r.1) ++ dgS r.2) rs = _
    rw [row_is rs]
    refine str_ext ?_
    show tlS (Txt.join " " (((a ++ wsS r.1) ++ dgS r.2) :: rs.map rdT)) = tlS (Txt.join " " (a :: (r :: rs).map rdT))
    rw [tl_joinS, tl_joinS]
    have e : tlS ((a ++ wsS r.1) ++ dgS r.2) = tlS a ++ (tlS (" " : Str) ++ tlS (rdT r)) := by
      unfold rdT
      rw [tl_app, tl_app, tl_app]
      have : tlS (wsS r.1) = tlS (" " : Str) ++ tlS (sgS r.1) := by
        unfold wsS sgS
        split <;> rfl
      rw [this]
      simp only [List.append_assoc]
    rw [List.map_cons, e, push_joinL]
    rfl
def stB : FS := (sSeq (sAsg 11 (fVar 9))
    (sSeq (sFor (itTake (fVar 10)) (tgT [(tgN 12), (tgN 13)]) [12, 13]
    inB)
    (sFrz [11] (sApp 6 (fVar 11)))))
theorem st_loop46 (ns : List Int) (R : Rc) (x8 : Option Sv) (n : Nat) : ∀ (ss : List Stp) (acc : List Str), (∀ s ∈ ss, okS46 s) → acc.length + ss.length ≤ 1000 → forL (tgT [(tgN 9), (tgN 10)]) [9, 10, 11, 12, 13] stB (ss.map encS) (E46 ns R (some (.cell (acc.map PyData.str))) none x8 none none none none none none) n = some (.nx, E46 ns R (some (.cell ((acc ++ ss.map stT).map PyData.str))) none x8 none none none none none none, n)
  | [], acc, _, _ => by
    rw [List.map_nil, List.map_nil, List.append_nil]
    rfl
  | s :: ss, acc, h, hl => by
    have hs := h s List.mem_cons_self
    obtain ⟨nl, n3⟩ := nm_low hs
    rw [List.length_cons] at hl
    let x6 : Option Sv := some (.cell (acc.map PyData.str))
    let r9 : Option Sv := some (.d (.str s.1))
    let r10 : Option Sv := some (.d (.tuple (s.2.map encR)))
    have hlen := nl.1
    have q1 : sAsg 11 (fVar 9) (E46 ns R x6 none x8 r9 r10 none none none none) n = some (.nx, E46 ns R x6 none x8 r9 r10 (some (.d (.str s.1))) none none none, n) := setV (sv := .d (.str s.1)) rfl rfl
    have q2 := in_loop ns R x6 x8 r9 r10 n s.2 s.1 hs.rd (by omega)
    rw [row_is] at q2
    have q2 : sFor (itTake (fVar 10)) (tgT [(tgN 12), (tgN 13)]) [12, 13] inB (E46 ns R x6 none x8 r9 r10 (some (.d (.str s.1))) none none none) n = some (.nx, E46 ns R x6 none x8 r9 r10 (some (.d (.str (stT s)))) none none none, n) := for_q (n1 := n) (xs := s.2.map encR) rfl (len_big (by rw [List.length_map]; omega)) q2
    have q3 : sFrz [11] (sApp 6 (fVar 11)) (E46 ns R x6 none x8 r9 r10 (some (.d (.str (stT s)))) none none none) n = some (.nx, E46 ns R (some (.cell ((acc ++ [stT s]).map PyData.str))) none x8 r9 r10 (some (.d (.str (stT s)))) none none none, n) := by
      have := app_ev (i := 6) (f := fVar 11) (e := E46 ns R x6 none x8 r9 r10 (some (.d (.str (stT s)))) none none none) (n := n) (n1 := n) (y := .str (stT s)) (xs := acc.map PyData.str) rfl rfl (by rw [List.length_map]; show _ < 100000; omega)
      have e : acc.map PyData.str ++ [PyData.str (stT s)] = (acc ++ [stT s]).map PyData.str := by rw [List.map_append]; rfl
      rw [e] at this
      exact this
    have ih := st_loop46 ns R x8 n ss (acc ++ [stT s]) (fun x hx => h x (List.mem_cons_of_mem _ hx)) (by rw [List.length_append, List.length_singleton]; omega)
    rw [List.append_assoc] at ih
    exact forL_c (e1 := E46 ns R x6 none x8 r9 r10 none none none none) rfl (seq_q q1 (seq_q q2 q3)) rfl ih
theorem text_is (R : Rc) : ((((Txt.join ", " (R.ts.map thT) ++ ("; " : Str)) ++ Txt.join ", " (R.ss.map stT)) ++ ("; " : Str)) ++ Txt.join ", " (R.ms.map dgS)) = wrT R := by
  refine str_ext ?_
  show tlS _ = tlS (wrT R)
  unfold wrT wrP
  rw [tl_joinS, tl_app, tl_app, tl_app, tl_app]
  show _ = tlS (Txt.join ", " (R.ts.map thT)) ++ (tlS ("; " : Str) ++ (tlS (Txt.join ", " (R.ss.map stT)) ++ (tlS ("; " : Str) ++ tlS (Txt.join ", " (R.ms.map dgS)))))
  simp only [List.append_assoc]
theorem law_true (ns : List Int) (hn : ns.length ≤ 63) : ∃ e' n', b_law (lawE ns) 0 = some (.rt (.d (.bool true)), e', n') := by
  obtain ⟨r, n1, ts, ss, ms, q1, l1, l2, h⟩ := m_some_recipe ns hn 0 (by omega)
  obtain ⟨R, er, hR, ets, ess, ems⟩ := h.plain
  subst er
  subst ets
  have K := ok46_of hR
  have t5 := hR.t5
  have s8 := hR.s8
  have m3 := hR.m3
  suffices hg : Gives b_law (lawE ns) 0 (.d (.bool true)) n1 by
    obtain ⟨e', hg⟩ := hg
    exact ⟨e', _, hg⟩
  refine g_set (sv := .d R.enc) (n1 := n1) (call_ev (as := [.d (scriptD ns), .st]) rfl rfl q1) rfl ?_
  refine g_st46 (e1 := E46 ns R none none none none none none none none none) (n1 := n1) (by kernel_rfl) ?_
  refine g_set (sv := .cell (([] : List Str).map PyData.str)) (n1 := n1) rfl rfl ?_
  have p1 := th_loop ns R n1 R.ts [] K.ts (by show 0 + _ ≤ 1000; omega)
  rw [List.nil_append] at p1
  refine g_run (xs := R.ts.map encT) (n1 := n1) rfl (len_big (by rw [List.length_map]; omega)) p1 ?_
  have z0 := sz0 K
  have z1 := sz1 K
  have z2 := sz2 K
  have b0 := join_len ", " (R.ts.map thT)
  have b1 := join_len ", " (R.ss.map stT)
  have b2 := join_len ", " (R.ms.map dgS)
  have a0 := addS_ev (join_evS (y := ", ") (f := fVar 6) (e := E46 ns R (some (.cell ((R.ts.map thT).map PyData.str))) none none none none none none none none) (n := n1) (sv := .bor ((R.ts.map thT).map PyData.str)) rfl rfl (by omega)) (g := fC (.str "; ")) (y := "; ") rfl (by show _ + 2 ≤ 100000; omega)
  refine g_set (sv := .d (.str (Txt.join ", " (R.ts.map thT) ++ ("; " : Str)))) (n1 := n1) a0 rfl ?_
  let A0 : Str := Txt.join ", " (R.ts.map thT) ++ ("; " : Str)
  refine g_set (sv := .cell (([] : List Str).map PyData.str)) (n1 := n1) rfl rfl ?_
  have p2 := st_loop46 ns R (some (.d (.str A0))) n1 R.ss [] K.ss (by show 0 + _ ≤ 1000; omega)
  rw [List.nil_append] at p2
  refine g_run (xs := R.ss.map encS) (n1 := n1) rfl (len_big (by rw [List.length_map]; omega)) p2 ?_
  let E : Option Sv → Ev := fun x14 => E46 ns R (some (.cell ((R.ss.map stT).map PyData.str))) none (some (.d (.str A0))) none none none none none x14
  have hA0 : A0.length = (Txt.join ", " (R.ts.map thT)).length + 2 := by
    show (Txt.join ", " (R.ts.map thT) ++ ("; " : Str)).length = _
    rw [len_tl, tl_app, List.length_append, ← len_tl]
    rfl
  have j1 : fMt "str" joinG (fC (.str ", ")) (faCons (fVar 6) faNil) (E none) n1 = some (.d (.str (Txt.join ", " (R.ss.map stT))), n1) := join_evS (y := ", ") (f := fVar 6) (sv := .bor ((R.ss.map stT).map PyData.str)) rfl rfl (by omega)
  have a1 := addS_ev (f := fVar 8) (e := E none) (n := n1) (x := A0) rfl j1 (by omega)
  have hA1 : (A0 ++ Txt.join ", " (R.ss.map stT)).length = A0.length + (Txt.join ", " (R.ss.map stT)).length := by rw [len_tl, tl_app, List.length_append, ← len_tl, ← len_tl]
  have a2 := addS_ev a1 (g := fC (.str "; ")) (y := "; ") rfl (by show _ + 2 ≤ 100000; omega)
  have hA2 : ((A0 ++ Txt.join ", " (R.ss.map stT)) ++ ("; " : Str)).length = A0.length + (Txt.join ", " (R.ss.map stT)).length + 2 := by
    rw [len_tl, tl_app, List.length_append, ← len_tl, hA1]
    rfl
  have h3 : ∀ ts : List Nat, (∀ t ∈ ts, t < 10) → lcL (tgN 14) [14] tT (fBi (see1 strIG) (faCons (fVar 14) faNil)) (ts.map natD) (E none) n1 = some ((ts.map dgS).map PyData.str, n1) := fun ts => by
    induction ts with
    | nil => intro _; rfl
    | cons t ts ih => exact fun ht => lcL_cons (e1 := E (some (.d (natD t)))) rfl rfl (by
        refine ten (P := fun k => fBi (see1 strIG) (faCons (fVar 14) faNil) (E (some (.d (natD k)))) n1 = some (.d (.str (dgS k)), n1)) ?_ ?_ ?_ ?_ ?_ ?_ ?_ ?_ ?_ ?_ t (ht t List.mem_cons_self) <;> kernel_rfl) (ih fun x hx => ht x (List.mem_cons_of_mem _ hx))
  have l3 := lc_ev' (it := itSee (fVar 5)) (e := E none) (n := n1) (n1 := n1) (xs := R.ms.map natD) rfl (len_big (by rw [List.length_map]; omega)) (h3 R.ms K.ms)
  have j2 := join_evS (y := ", ") l3 rfl (by omega)
  have a3 := addS_ev a2 j2 (by omega)
  have a3 : fOp2 addL (fOp2 addL (fOp2 addL (fVar 8) (fMt "str" joinG (fC (.str ", ")) (faCons (fVar 6) faNil))) (fC (.str "; "))) (fMt "str" joinG (fC (.str ", ")) (faCons (fLc (itSee (fVar 5)) (tgN 14) [14] tT (fBi (see1 strIG) (faCons (fVar 14) faNil))) faNil)) (E none) n1 = some (.d (.str (wrT R)), n1) := by
    rw [a3, ← text_is R]
  refine g_set (sv := .d (.str (wrT R))) (n1 := n1) a3 rfl (g_frz (g_ret ?_))
  let F : Ev := E46 ns R (some (.cell ((R.ss.map stT).map PyData.str))) none (some (.d (.str (wrT R)))) none none none none none none
  have hfm : F_format_recipe [.d R.enc] n1 = some (.d (.str (wrT R)), n1) := run_g rfl (g_drop (call_ev (F := F_check_recipe) (np := 1) (as := [.d R.enc]) rfl rfl (m_check_recipe hR.rd hR.sm n1)) (g_ret (call_ev (F := F_written) (np := 1) (as := [.d R.enc]) rfl rfl (m_written K n1))))
  have c1 := cmp_ev (g := eqD false) (fb := fVar 8) (n2 := n1) (call_ev (F := F_format_recipe) (np := 1) (fa := faCons (fVar 2) faNil) (e := F) (n := n1) (as := [.d R.enc]) rfl rfl hfm) (b := .str (wrT R)) rfl (str_eq false _ _)
  rw [decide_eq_true rfl] at c1
  refine (and_ev c1).trans ((if_pos rfl).trans ?_)
  exact cmp_ev (g := eqD false) (fb := fVar 2) (n2 := n1) (call_ev (F := F_parse_recipe) (np := 1) (fa := faCons (fVar 8) faNil) (e := F) (n := n1) (as := [.d (.str (wrT R))]) rfl rfl (m_parse hR K n1)) (b := R.enc) rfl (eq_rec false hR)
end Sb

namespace Sb
open PySem PySem.Spec PyProof.Rows L2
theorem ok_law {P : Program} {w : World} {K : PySem.W.Frag} {mg : Str → Option Value} {base : Heap} (T : Tx K mg w) : FnOk P w K mg base CX0 8 T.f_law T.d_law ["_law_script"] (spLaw K) := ok_law_of law_true T
theorem all_mk {l : PySem.W.OpenLaw} {w : World} {K : PySem.W.Frag} {h : Heap} {mg : Str → Option Value} {fa : Addr} (X : K.In h) (G : h.Ns mainGlobals mg) (hfa : mg "law" = some (.ref fa))
    {f0 : Addr} {od0 an0 : Option Addr} {sl0 : Array (Option Value)} {oc0 kV0 dc0 pm0 cd0 ct0 : Value}
    (a0 : PySem.W.nsIn K mainGlobals "is_number" = some (some (.ref f0))) (l0 : K.lookup f0 = some ⟨oc0, od0, .func (PySem.W.fnOf "is_number" "is_number" (defArgs s_is_number) (defBody s_is_number) (defScope s_is_number) .none kV0 dc0 pm0 an0 cd0 ct0), sl0⟩) (c0 : PySem.W.codeIn K cd0 "is_number" = true) (k0 : PySem.W.keepIn K (.ref f0) = true)
    {f1 : Addr} {od1 an1 : Option Addr} {sl1 : Array (Option Value)} {oc1 kV1 dc1 pm1 cd1 ct1 : Value}
    (a1 : PySem.W.nsIn K mainGlobals "is_tuple" = some (some (.ref f1))) (l1 : K.lookup f1 = some ⟨oc1, od1, .func (PySem.W.fnOf "is_tuple" "is_tuple" (defArgs s_is_tuple) (defBody s_is_tuple) (defScope s_is_tuple) .none kV1 dc1 pm1 an1 cd1 ct1), sl1⟩) (c1 : PySem.W.codeIn K cd1 "is_tuple" = true) (k1 : PySem.W.keepIn K (.ref f1) = true)
    {f2 : Addr} {od2 an2 : Option Addr} {sl2 : Array (Option Value)} {oc2 kV2 dc2 pm2 cd2 ct2 : Value}
    (a2 : PySem.W.nsIn K mainGlobals "is_text" = some (some (.ref f2))) (l2 : K.lookup f2 = some ⟨oc2, od2, .func (PySem.W.fnOf "is_text" "is_text" (defArgs s_is_text) (defBody s_is_text) (defScope s_is_text) .none kV2 dc2 pm2 an2 cd2 ct2), sl2⟩) (c2 : PySem.W.codeIn K cd2 "is_text" = true) (k2 : PySem.W.keepIn K (.ref f2) = true)
    {f3 : Addr} {od3 an3 : Option Addr} {sl3 : Array (Option Value)} {oc3 kV3 dc3 pm3 cd3 ct3 : Value}
    (a3 : PySem.W.nsIn K mainGlobals "is_ascending" = some (some (.ref f3))) (l3 : K.lookup f3 = some ⟨oc3, od3, .func (PySem.W.fnOf "is_ascending" "is_ascending" (defArgs s_is_ascending) (defBody s_is_ascending) (defScope s_is_ascending) .none kV3 dc3 pm3 an3 cd3 ct3), sl3⟩) (c3 : PySem.W.codeIn K cd3 "is_ascending" = true) (k3 : PySem.W.keepIn K (.ref f3) = true)
    {f4 : Addr} {od4 an4 : Option Addr} {sl4 : Array (Option Value)} {oc4 kV4 dc4 pm4 cd4 ct4 : Value}
    (a4 : PySem.W.nsIn K mainGlobals "is_thing" = some (some (.ref f4))) (l4 : K.lookup f4 = some ⟨oc4, od4, .func (PySem.W.fnOf "is_thing" "is_thing" (defArgs s_is_thing) (defBody s_is_thing) (defScope s_is_thing) .none kV4 dc4 pm4 an4 cd4 ct4), sl4⟩) (c4 : PySem.W.codeIn K cd4 "is_thing" = true) (k4 : PySem.W.keepIn K (.ref f4) = true)
    {f5 : Addr} {od5 an5 : Option Addr} {sl5 : Array (Option Value)} {oc5 kV5 dc5 pm5 cd5 ct5 : Value}
    (a5 : PySem.W.nsIn K mainGlobals "are_things" = some (some (.ref f5))) (l5 : K.lookup f5 = some ⟨oc5, od5, .func (PySem.W.fnOf "are_things" "are_things" (defArgs s_are_things) (defBody s_are_things) (defScope s_are_things) .none kV5 dc5 pm5 an5 cd5 ct5), sl5⟩) (c5 : PySem.W.codeIn K cd5 "are_things" = true) (k5 : PySem.W.keepIn K (.ref f5) = true)
    {f6 : Addr} {od6 an6 : Option Addr} {sl6 : Array (Option Value)} {oc6 kV6 dc6 pm6 cd6 ct6 : Value}
    (a6 : PySem.W.nsIn K mainGlobals "is_reading" = some (some (.ref f6))) (l6 : K.lookup f6 = some ⟨oc6, od6, .func (PySem.W.fnOf "is_reading" "is_reading" (defArgs s_is_reading) (defBody s_is_reading) (defScope s_is_reading) .none kV6 dc6 pm6 an6 cd6 ct6), sl6⟩) (c6 : PySem.W.codeIn K cd6 "is_reading" = true) (k6 : PySem.W.keepIn K (.ref f6) = true)
    {f7 : Addr} {od7 an7 : Option Addr} {sl7 : Array (Option Value)} {oc7 kV7 dc7 pm7 cd7 ct7 : Value}
    (a7 : PySem.W.nsIn K mainGlobals "is_step" = some (some (.ref f7))) (l7 : K.lookup f7 = some ⟨oc7, od7, .func (PySem.W.fnOf "is_step" "is_step" (defArgs s_is_step) (defBody s_is_step) (defScope s_is_step) .none kV7 dc7 pm7 an7 cd7 ct7), sl7⟩) (c7 : PySem.W.codeIn K cd7 "is_step" = true) (k7 : PySem.W.keepIn K (.ref f7) = true)
    {f8 : Addr} {od8 an8 : Option Addr} {sl8 : Array (Option Value)} {oc8 kV8 dc8 pm8 cd8 ct8 : Value}
    (a8 : PySem.W.nsIn K mainGlobals "are_steps" = some (some (.ref f8))) (l8 : K.lookup f8 = some ⟨oc8, od8, .func (PySem.W.fnOf "are_steps" "are_steps" (defArgs s_are_steps) (defBody s_are_steps) (defScope s_are_steps) .none kV8 dc8 pm8 an8 cd8 ct8), sl8⟩) (c8 : PySem.W.codeIn K cd8 "are_steps" = true) (k8 : PySem.W.keepIn K (.ref f8) = true)
    {f9 : Addr} {od9 an9 : Option Addr} {sl9 : Array (Option Value)} {oc9 kV9 dc9 pm9 cd9 ct9 : Value}
    (a9 : PySem.W.nsIn K mainGlobals "is_made" = some (some (.ref f9))) (l9 : K.lookup f9 = some ⟨oc9, od9, .func (PySem.W.fnOf "is_made" "is_made" (defArgs s_is_made) (defBody s_is_made) (defScope s_is_made) .none kV9 dc9 pm9 an9 cd9 ct9), sl9⟩) (c9 : PySem.W.codeIn K cd9 "is_made" = true) (k9 : PySem.W.keepIn K (.ref f9) = true)
    {f10 : Addr} {od10 an10 : Option Addr} {sl10 : Array (Option Value)} {oc10 kV10 dc10 pm10 cd10 ct10 : Value}
    (a10 : PySem.W.nsIn K mainGlobals "is_recipe" = some (some (.ref f10))) (l10 : K.lookup f10 = some ⟨oc10, od10, .func (PySem.W.fnOf "is_recipe" "is_recipe" (defArgs s_is_recipe) (defBody s_is_recipe) (defScope s_is_recipe) .none kV10 dc10 pm10 an10 cd10 ct10), sl10⟩) (c10 : PySem.W.codeIn K cd10 "is_recipe" = true) (k10 : PySem.W.keepIn K (.ref f10) = true)
    {f11 : Addr} {od11 an11 : Option Addr} {sl11 : Array (Option Value)} {oc11 kV11 dc11 pm11 cd11 ct11 : Value}
    (a11 : PySem.W.nsIn K mainGlobals "check_recipe" = some (some (.ref f11))) (l11 : K.lookup f11 = some ⟨oc11, od11, .func (PySem.W.fnOf "check_recipe" "check_recipe" (defArgs s_check_recipe) (defBody s_check_recipe) (defScope s_check_recipe) .none kV11 dc11 pm11 an11 cd11 ct11), sl11⟩) (c11 : PySem.W.codeIn K cd11 "check_recipe" = true) (k11 : PySem.W.keepIn K (.ref f11) = true)
    {f12 : Addr} {od12 an12 : Option Addr} {sl12 : Array (Option Value)} {oc12 kV12 dc12 pm12 cd12 ct12 : Value}
    (a12 : PySem.W.nsIn K mainGlobals "written_thing" = some (some (.ref f12))) (l12 : K.lookup f12 = some ⟨oc12, od12, .func (PySem.W.fnOf "written_thing" "written_thing" (defArgs s_written_thing) (defBody s_written_thing) (defScope s_written_thing) .none kV12 dc12 pm12 an12 cd12 ct12), sl12⟩) (c12 : PySem.W.codeIn K cd12 "written_thing" = true) (k12 : PySem.W.keepIn K (.ref f12) = true)
    {f13 : Addr} {od13 an13 : Option Addr} {sl13 : Array (Option Value)} {oc13 kV13 dc13 pm13 cd13 ct13 : Value}
    (a13 : PySem.W.nsIn K mainGlobals "written_step" = some (some (.ref f13))) (l13 : K.lookup f13 = some ⟨oc13, od13, .func (PySem.W.fnOf "written_step" "written_step" (defArgs s_written_step) (defBody s_written_step) (defScope s_written_step) .none kV13 dc13 pm13 an13 cd13 ct13), sl13⟩) (c13 : PySem.W.codeIn K cd13 "written_step" = true) (k13 : PySem.W.keepIn K (.ref f13) = true)
    {f14 : Addr} {od14 an14 : Option Addr} {sl14 : Array (Option Value)} {oc14 kV14 dc14 pm14 cd14 ct14 : Value}
    (a14 : PySem.W.nsIn K mainGlobals "written" = some (some (.ref f14))) (l14 : K.lookup f14 = some ⟨oc14, od14, .func (PySem.W.fnOf "written" "written" (defArgs s_written) (defBody s_written) (defScope s_written) .none kV14 dc14 pm14 an14 cd14 ct14), sl14⟩) (c14 : PySem.W.codeIn K cd14 "written" = true) (k14 : PySem.W.keepIn K (.ref f14) = true)
    {f15 : Addr} {od15 an15 : Option Addr} {sl15 : Array (Option Value)} {oc15 kV15 dc15 pm15 cd15 ct15 : Value}
    (a15 : PySem.W.nsIn K mainGlobals "format_recipe" = some (some (.ref f15))) (l15 : K.lookup f15 = some ⟨oc15, od15, .func (PySem.W.fnOf "format_recipe" "format_recipe" (defArgs s_format_recipe) (defBody s_format_recipe) (defScope s_format_recipe) .none kV15 dc15 pm15 an15 cd15 ct15), sl15⟩) (c15 : PySem.W.codeIn K cd15 "format_recipe" = true) (k15 : PySem.W.keepIn K (.ref f15) = true)
    {f16 : Addr} {od16 an16 : Option Addr} {sl16 : Array (Option Value)} {oc16 kV16 dc16 pm16 cd16 ct16 : Value}
    (a16 : PySem.W.nsIn K mainGlobals "read_thing" = some (some (.ref f16))) (l16 : K.lookup f16 = some ⟨oc16, od16, .func (PySem.W.fnOf "read_thing" "read_thing" (defArgs s_read_thing) (defBody s_read_thing) (defScope s_read_thing) .none kV16 dc16 pm16 an16 cd16 ct16), sl16⟩) (c16 : PySem.W.codeIn K cd16 "read_thing" = true) (k16 : PySem.W.keepIn K (.ref f16) = true)
    {f17 : Addr} {od17 an17 : Option Addr} {sl17 : Array (Option Value)} {oc17 kV17 dc17 pm17 cd17 ct17 : Value}
    (a17 : PySem.W.nsIn K mainGlobals "read_number" = some (some (.ref f17))) (l17 : K.lookup f17 = some ⟨oc17, od17, .func (PySem.W.fnOf "read_number" "read_number" (defArgs s_read_number) (defBody s_read_number) (defScope s_read_number) .none kV17 dc17 pm17 an17 cd17 ct17), sl17⟩) (c17 : PySem.W.codeIn K cd17 "read_number" = true) (k17 : PySem.W.keepIn K (.ref f17) = true)
    {f18 : Addr} {od18 an18 : Option Addr} {sl18 : Array (Option Value)} {oc18 kV18 dc18 pm18 cd18 ct18 : Value}
    (a18 : PySem.W.nsIn K mainGlobals "read_reading" = some (some (.ref f18))) (l18 : K.lookup f18 = some ⟨oc18, od18, .func (PySem.W.fnOf "read_reading" "read_reading" (defArgs s_read_reading) (defBody s_read_reading) (defScope s_read_reading) .none kV18 dc18 pm18 an18 cd18 ct18), sl18⟩) (c18 : PySem.W.codeIn K cd18 "read_reading" = true) (k18 : PySem.W.keepIn K (.ref f18) = true)
    {f19 : Addr} {od19 an19 : Option Addr} {sl19 : Array (Option Value)} {oc19 kV19 dc19 pm19 cd19 ct19 : Value}
    (a19 : PySem.W.nsIn K mainGlobals "read_step" = some (some (.ref f19))) (l19 : K.lookup f19 = some ⟨oc19, od19, .func (PySem.W.fnOf "read_step" "read_step" (defArgs s_read_step) (defBody s_read_step) (defScope s_read_step) .none kV19 dc19 pm19 an19 cd19 ct19), sl19⟩) (c19 : PySem.W.codeIn K cd19 "read_step" = true) (k19 : PySem.W.keepIn K (.ref f19) = true)
    {f20 : Addr} {od20 an20 : Option Addr} {sl20 : Array (Option Value)} {oc20 kV20 dc20 pm20 cd20 ct20 : Value}
    (a20 : PySem.W.nsIn K mainGlobals "parse_recipe" = some (some (.ref f20))) (l20 : K.lookup f20 = some ⟨oc20, od20, .func (PySem.W.fnOf "parse_recipe" "parse_recipe" (defArgs s_parse_recipe) (defBody s_parse_recipe) (defScope s_parse_recipe) .none kV20 dc20 pm20 an20 cd20 ct20), sl20⟩) (c20 : PySem.W.codeIn K cd20 "parse_recipe" = true) (k20 : PySem.W.keepIn K (.ref f20) = true)
    {f21 : Addr} {od21 an21 : Option Addr} {sl21 : Array (Option Value)} {oc21 kV21 dc21 pm21 cd21 ct21 : Value}
    (a21 : PySem.W.nsIn K mainGlobals "_law_cell_at" = some (some (.ref f21))) (l21 : K.lookup f21 = some ⟨oc21, od21, .func (PySem.W.fnOf "_law_cell_at" "_law_cell_at" (defArgs s_cell_at) (defBody s_cell_at) (defScope s_cell_at) .none kV21 dc21 pm21 an21 cd21 ct21), sl21⟩) (c21 : PySem.W.codeIn K cd21 "_law_cell_at" = true) (k21 : PySem.W.keepIn K (.ref f21) = true)
    {f22 : Addr} {od22 an22 : Option Addr} {sl22 : Array (Option Value)} {oc22 kV22 dc22 pm22 cd22 ct22 : Value}
    (a22 : PySem.W.nsIn K mainGlobals "_law_mixed" = some (some (.ref f22))) (l22 : K.lookup f22 = some ⟨oc22, od22, .func (PySem.W.fnOf "_law_mixed" "_law_mixed" (defArgs s_mixed) (defBody s_mixed) (defScope s_mixed) .none kV22 dc22 pm22 an22 cd22 ct22), sl22⟩) (c22 : PySem.W.codeIn K cd22 "_law_mixed" = true) (k22 : PySem.W.keepIn K (.ref f22) = true)
    {f23 : Addr} {od23 an23 : Option Addr} {sl23 : Array (Option Value)} {oc23 kV23 dc23 pm23 cd23 ct23 : Value}
    (a23 : PySem.W.nsIn K mainGlobals "_law_draw" = some (some (.ref f23))) (l23 : K.lookup f23 = some ⟨oc23, od23, .func (PySem.W.fnOf "_law_draw" "_law_draw" (defArgs s_draw) (defBody s_draw) (defScope s_draw) .none kV23 dc23 pm23 an23 cd23 ct23), sl23⟩) (c23 : PySem.W.codeIn K cd23 "_law_draw" = true) (k23 : PySem.W.keepIn K (.ref f23) = true)
    {f24 : Addr} {od24 an24 : Option Addr} {sl24 : Array (Option Value)} {oc24 kV24 dc24 pm24 cd24 ct24 : Value}
    (a24 : PySem.W.nsIn K mainGlobals "_law_some_of" = some (some (.ref f24))) (l24 : K.lookup f24 = some ⟨oc24, od24, .func (PySem.W.fnOf "_law_some_of" "_law_some_of" (defArgs s_some_of) (defBody s_some_of) (defScope s_some_of) .none kV24 dc24 pm24 an24 cd24 ct24), sl24⟩) (c24 : PySem.W.codeIn K cd24 "_law_some_of" = true) (k24 : PySem.W.keepIn K (.ref f24) = true)
    {f25 : Addr} {od25 an25 : Option Addr} {sl25 : Array (Option Value)} {oc25 kV25 dc25 pm25 cd25 ct25 : Value}
    (a25 : PySem.W.nsIn K mainGlobals "_law_pick" = some (some (.ref f25))) (l25 : K.lookup f25 = some ⟨oc25, od25, .func (PySem.W.fnOf "_law_pick" "_law_pick" (defArgs s_pick) (defBody s_pick) (defScope s_pick) .none kV25 dc25 pm25 an25 cd25 ct25), sl25⟩) (c25 : PySem.W.codeIn K cd25 "_law_pick" = true) (k25 : PySem.W.keepIn K (.ref f25) = true)
    {f26 : Addr} {od26 an26 : Option Addr} {sl26 : Array (Option Value)} {oc26 kV26 dc26 pm26 cd26 ct26 : Value}
    (a26 : PySem.W.nsIn K mainGlobals "_law_some_thing" = some (some (.ref f26))) (l26 : K.lookup f26 = some ⟨oc26, od26, .func (PySem.W.fnOf "_law_some_thing" "_law_some_thing" (defArgs s_some_thing) (defBody s_some_thing) (defScope s_some_thing) .none kV26 dc26 pm26 an26 cd26 ct26), sl26⟩) (c26 : PySem.W.codeIn K cd26 "_law_some_thing" = true) (k26 : PySem.W.keepIn K (.ref f26) = true)
    {f27 : Addr} {od27 an27 : Option Addr} {sl27 : Array (Option Value)} {oc27 kV27 dc27 pm27 cd27 ct27 : Value}
    (a27 : PySem.W.nsIn K mainGlobals "_law_some_step" = some (some (.ref f27))) (l27 : K.lookup f27 = some ⟨oc27, od27, .func (PySem.W.fnOf "_law_some_step" "_law_some_step" (defArgs s_some_step) (defBody s_some_step) (defScope s_some_step) .none kV27 dc27 pm27 an27 cd27 ct27), sl27⟩) (c27 : PySem.W.codeIn K cd27 "_law_some_step" = true) (k27 : PySem.W.keepIn K (.ref f27) = true)
    {f28 : Addr} {od28 an28 : Option Addr} {sl28 : Array (Option Value)} {oc28 kV28 dc28 pm28 cd28 ct28 : Value}
    (a28 : PySem.W.nsIn K mainGlobals "_law_some_recipe" = some (some (.ref f28))) (l28 : K.lookup f28 = some ⟨oc28, od28, .func (PySem.W.fnOf "_law_some_recipe" "_law_some_recipe" (defArgs s_some_recipe) (defBody s_some_recipe) (defScope s_some_recipe) .none kV28 dc28 pm28 an28 cd28 ct28), sl28⟩) (c28 : PySem.W.codeIn K cd28 "_law_some_recipe" = true) (k28 : PySem.W.keepIn K (.ref f28) = true)
    {f29 : Addr} {od29 an29 : Option Addr} {sl29 : Array (Option Value)} {oc29 kV29 dc29 pm29 cd29 ct29 : Value}
    (a29 : PySem.W.nsIn K mainGlobals "law" = some (some (.ref f29))) (l29 : K.lookup f29 = some ⟨oc29, od29, .func (PySem.W.fnOf "law" "law" (defArgs s_law) (defBody s_law) (defScope s_law) .none kV29 dc29 pm29 an29 cd29 ct29), sl29⟩) (c29 : PySem.W.codeIn K cd29 "law" = true) (k29 : PySem.W.keepIn K (.ref f29) = true)
    {ck0 : Tok} (g0 : PySem.W.nsIn K mainGlobals "MOST_THINGS" = some (some (.int 5 ck0)))
    {ck1 : Tok} (g1 : PySem.W.nsIn K mainGlobals "MOST_TEXTS" = some (some (.int 4 ck1)))
    {ck2 : Tok} (g2 : PySem.W.nsIn K mainGlobals "LONGEST_TEXT" = some (some (.int 4 ck2)))
    {ck3 : Tok} (g3 : PySem.W.nsIn K mainGlobals "MOST_WORLDS" = some (some (.int 256 ck3)))
    {ck4 : Tok} (g4 : PySem.W.nsIn K mainGlobals "MOST_STEPS" = some (some (.int 8 ck4)))
    {ck5 : Tok} (g5 : PySem.W.nsIn K mainGlobals "MOST_MADE" = some (some (.int 3 ck5)))
    {ca6 : Addr} {ce6 : Array DictEntry} {cn6 : Nat} (g6 : PySem.W.nsIn K mainGlobals "READINGS" = some (some (.ref ca6))) (ml6 : K.lookup ca6 = some ⟨.type "dict", none, .dict ce6 cn6, #[]⟩) (mk6 : PySem.W.KeysLit w.params ce6.toList) (mm6 : ce6.toList.map (fun e => (keyD e, valD e)) = mREADINGS.map fun p => (some p.1, some p.2)) (mz6 : (ca6 == sysModules) = false)
    {ck7 : Tok} (g7 : PySem.W.nsIn K mainGlobals "PARTS" = some (some (.str "; " ck7)))
    {ck8 : Tok} (g8 : PySem.W.nsIn K mainGlobals "ITEMS" = some (some (.str ", " ck8)))
    {ck9 : Tok} (g9 : PySem.W.nsIn K mainGlobals "CHOICES" = some (some (.str "|" ck9)))
    {ck10 : Tok} (g10 : PySem.W.nsIn K mainGlobals "WORDS" = some (some (.str " " ck10)))
    {ck11 : Tok} (g11 : PySem.W.nsIn K mainGlobals "EMPTY" = some (some (.str "-" ck11)))
    {ca12 : Addr} {ce12 : Array DictEntry} {cn12 : Nat} (g12 : PySem.W.nsIn K mainGlobals "SIGNS" = some (some (.ref ca12))) (ml12 : K.lookup ca12 = some ⟨.type "dict", none, .dict ce12 cn12, #[]⟩) (mk12 : PySem.W.KeysLit w.params ce12.toList) (mm12 : ce12.toList.map (fun e => (keyD e, valS e)) = mSIGNS.map fun p => (some p.1, some p.2)) (mz12 : (ca12 == sysModules) = false)
    {ca13 : Addr} {ce13 : Array DictEntry} {cn13 : Nat} (g13 : PySem.W.nsIn K mainGlobals "KINDS" = some (some (.ref ca13))) (ml13 : K.lookup ca13 = some ⟨.type "dict", none, .dict ce13 cn13, #[]⟩) (mk13 : PySem.W.KeysLit w.params ce13.toList) (mm13 : ce13.toList.map (fun e => (keyD e, valS e)) = mKINDS.map fun p => (some p.1, some p.2)) (mz13 : (ca13 == sysModules) = false)
    {ck14 : Tok} (g14 : PySem.W.nsIn K mainGlobals "DIGITS" = some (some (.str "0123456789" ck14)))
    (z0 : PySem.W.nsIn K mainGlobals "len" = some none)
    (z1 : PySem.W.nsIn K mainGlobals "int" = some none)
    (z2 : PySem.W.nsIn K mainGlobals "str" = some none)
    (z3 : PySem.W.nsIn K mainGlobals "bool" = some none)
    (z4 : PySem.W.nsIn K mainGlobals "tuple" = some none)
    (z5 : PySem.W.nsIn K mainGlobals "list" = some none)
    (z6 : PySem.W.nsIn K mainGlobals "isinstance" = some none)
    (z7 : PySem.W.nsIn K mainGlobals "range" = some none)
    (z8 : PySem.W.nsIn K mainGlobals "min" = some none)
    (z9 : PySem.W.nsIn K mainGlobals "sorted" = some none)
    (z10 : PySem.W.nsIn K mainGlobals "set" = some none)
    : ∃ fd : FuncData, (∀ (s : Shared) (v : Value), BindsTo s fd ⟨[v], []⟩ [("_law_script", v)]) ∧ ∀ base : Heap, K.In base → base.Ns mainGlobals mg → FnOk l.prog w K mg base CX0 8 fa fd ["_law_script"] (spLaw K) := by
  have e := hfa.symm.trans (PySem.W.mg_of X G a29)
  cases e
  have F0 := fun_mk (st := s_is_number) l0 c0 k0
  have b0 := F0.binds (ps := ["value", "least", "most"]) fun _ _ _ _ _ _ us hl => match us, hl with | [_, _, _], _ => rfl
  have F1 := fun_mk (st := s_is_tuple) l1 c1 k1
  have b1 := F1.binds (ps := ["value", "least", "most"]) fun _ _ _ _ _ _ us hl => match us, hl with | [_, _, _], _ => rfl
  have F2 := fun_mk (st := s_is_text) l2 c2 k2
  have b2 := F2.binds (ps := ["value", "longest"]) fun _ _ _ _ _ _ us hl => match us, hl with | [_, _], _ => rfl
  have F3 := fun_mk (st := s_is_ascending) l3 c3 k3
  have b3 := F3.binds (ps := ["values"]) fun _ _ _ _ _ _ us hl => match us, hl with | [_], _ => rfl
  have F4 := fun_mk (st := s_is_thing) l4 c4 k4
  have b4 := F4.binds (ps := ["value"]) fun _ _ _ _ _ _ us hl => match us, hl with | [_], _ => rfl
  have F5 := fun_mk (st := s_are_things) l5 c5 k5
  have b5 := F5.binds (ps := ["value"]) fun _ _ _ _ _ _ us hl => match us, hl with | [_], _ => rfl
  have F6 := fun_mk (st := s_is_reading) l6 c6 k6
  have b6 := F6.binds (ps := ["value", "many_things", "step"]) fun _ _ _ _ _ _ us hl => match us, hl with | [_, _, _], _ => rfl
  have F7 := fun_mk (st := s_is_step) l7 c7 k7
  have b7 := F7.binds (ps := ["value", "many_things", "step"]) fun _ _ _ _ _ _ us hl => match us, hl with | [_, _, _], _ => rfl
  have F8 := fun_mk (st := s_are_steps) l8 c8 k8
  have b8 := F8.binds (ps := ["value", "many_things"]) fun _ _ _ _ _ _ us hl => match us, hl with | [_, _], _ => rfl
  have F9 := fun_mk (st := s_is_made) l9 c9 k9
  have b9 := F9.binds (ps := ["value", "many_steps"]) fun _ _ _ _ _ _ us hl => match us, hl with | [_, _], _ => rfl
  have F10 := fun_mk (st := s_is_recipe) l10 c10 k10
  have b10 := F10.binds (ps := ["value"]) fun _ _ _ _ _ _ us hl => match us, hl with | [_], _ => rfl
  have F11 := fun_mk (st := s_check_recipe) l11 c11 k11
  have b11 := F11.binds (ps := ["value"]) fun _ _ _ _ _ _ us hl => match us, hl with | [_], _ => rfl
  have F12 := fun_mk (st := s_written_thing) l12 c12 k12
  have b12 := F12.binds (ps := ["thing"]) fun _ _ _ _ _ _ us hl => match us, hl with | [_], _ => rfl
  have F13 := fun_mk (st := s_written_step) l13 c13 k13
  have b13 := F13.binds (ps := ["step"]) fun _ _ _ _ _ _ us hl => match us, hl with | [_], _ => rfl
  have F14 := fun_mk (st := s_written) l14 c14 k14
  have b14 := F14.binds (ps := ["recipe"]) fun _ _ _ _ _ _ us hl => match us, hl with | [_], _ => rfl
  have F15 := fun_mk (st := s_format_recipe) l15 c15 k15
  have b15 := F15.binds (ps := ["recipe"]) fun _ _ _ _ _ _ us hl => match us, hl with | [_], _ => rfl
  have F16 := fun_mk (st := s_read_thing) l16 c16 k16
  have b16 := F16.binds (ps := ["text"]) fun _ _ _ _ _ _ us hl => match us, hl with | [_], _ => rfl
  have F17 := fun_mk (st := s_read_number) l17 c17 k17
  have b17 := F17.binds (ps := ["text"]) fun _ _ _ _ _ _ us hl => match us, hl with | [_], _ => rfl
  have F18 := fun_mk (st := s_read_reading) l18 c18 k18
  have b18 := F18.binds (ps := ["text"]) fun _ _ _ _ _ _ us hl => match us, hl with | [_], _ => rfl
  have F19 := fun_mk (st := s_read_step) l19 c19 k19
  have b19 := F19.binds (ps := ["text"]) fun _ _ _ _ _ _ us hl => match us, hl with | [_], _ => rfl
  have F20 := fun_mk (st := s_parse_recipe) l20 c20 k20
  have b20 := F20.binds (ps := ["text"]) fun _ _ _ _ _ _ us hl => match us, hl with | [_], _ => rfl
  have F21 := fun_mk (st := s_cell_at) l21 c21 k21
  have b21 := F21.binds (ps := ["_law_script", "_law_k"]) fun _ _ _ _ _ _ us hl => match us, hl with | [_, _], _ => rfl
  have F22 := fun_mk (st := s_mixed) l22 c22 k22
  have b22 := F22.binds (ps := ["_law_script", "_law_k", "_law_many"]) fun _ _ _ _ _ _ us hl => match us, hl with | [_, _, _], _ => rfl
  have F23 := fun_mk (st := s_draw) l23 c23 k23
  have b23 := F23.binds (ps := ["_law_script", "_law_state", "_law_many"]) fun _ _ _ _ _ _ us hl => match us, hl with | [_, _, _], _ => rfl
  have F24 := fun_mk (st := s_some_of) l24 c24 k24
  have b24 := F24.binds (ps := ["_law_script", "_law_state", "_law_some", "_law_count"]) fun _ _ _ _ _ _ us hl => match us, hl with | [_, _, _, _], _ => rfl
  have F25 := fun_mk (st := s_pick) l25 c25 k25
  have b25 := F25.binds (ps := ["_law_script", "_law_state", "_law_some"]) fun _ _ _ _ _ _ us hl => match us, hl with | [_, _, _], _ => rfl
  have F26 := fun_mk (st := s_some_thing) l26 c26 k26
  have b26 := F26.binds (ps := ["_law_script", "_law_state"]) fun _ _ _ _ _ _ us hl => match us, hl with | [_, _], _ => rfl
  have F27 := fun_mk (st := s_some_step) l27 c27 k27
  have b27 := F27.binds (ps := ["_law_script", "_law_state", "_law_things", "_law_count"]) fun _ _ _ _ _ _ us hl => match us, hl with | [_, _, _, _], _ => rfl
  have F28 := fun_mk (st := s_some_recipe) l28 c28 k28
  have b28 := F28.binds (ps := ["_law_script", "_law_state"]) fun _ _ _ _ _ _ us hl => match us, hl with | [_, _], _ => rfl
  have F29 := fun_mk (st := s_law) l29 c29 k29
  have b29 := F29.binds (ps := ["_law_script"]) fun _ _ _ _ _ _ us hl => match us, hl with | [_], _ => rfl
  refine ⟨_, fun s v => .of_eq rfl, fun base _ _ => ok_law (T := ⟨
    f0, _, F0, PySem.W.mg_of X G a0, b0, f1, _, F1, PySem.W.mg_of X G a1, b1, f2, _, F2, PySem.W.mg_of X G a2, b2, f3, _, F3, PySem.W.mg_of X G a3, b3, f4, _, F4, PySem.W.mg_of X G a4, b4, f5, _, F5, PySem.W.mg_of X G a5, b5, f6, _, F6, PySem.W.mg_of X G a6, b6, f7, _, F7, PySem.W.mg_of X G a7, b7, f8, _, F8, PySem.W.mg_of X G a8, b8, f9, _, F9, PySem.W.mg_of X G a9, b9, f10, _, F10, PySem.W.mg_of X G a10, b10, f11, _, F11, PySem.W.mg_of X G a11, b11, f12, _, F12, PySem.W.mg_of X G a12, b12, f13, _, F13, PySem.W.mg_of X G a13, b13, f14, _, F14, PySem.W.mg_of X G a14, b14, f15, _, F15, PySem.W.mg_of X G a15, b15, f16, _, F16, PySem.W.mg_of X G a16, b16, f17, _, F17, PySem.W.mg_of X G a17, b17, f18, _, F18, PySem.W.mg_of X G a18, b18, f19, _, F19, PySem.W.mg_of X G a19, b19, f20, _, F20, PySem.W.mg_of X G a20, b20, f21, _, F21, PySem.W.mg_of X G a21, b21, f22, _, F22, PySem.W.mg_of X G a22, b22, f23, _, F23, PySem.W.mg_of X G a23, b23, f24, _, F24, PySem.W.mg_of X G a24, b24, f25, _, F25, PySem.W.mg_of X G a25, b25, f26, _, F26, PySem.W.mg_of X G a26, b26, f27, _, F27, PySem.W.mg_of X G a27, b27, f28, _, F28, PySem.W.mg_of X G a28, b28, fa, _, F29, PySem.W.mg_of X G a29, b29, ck0, PySem.W.mg_of X G g0, ck1, PySem.W.mg_of X G g1, ck2, PySem.W.mg_of X G g2, ck3, PySem.W.mg_of X G g3, ck4, PySem.W.mg_of X G g4, ck5, PySem.W.mg_of X G g5, ca6, PySem.W.mg_of X G g6, ⟨⟨_, _, ml6, mk6, mm6⟩, mz6⟩, ck7, PySem.W.mg_of X G g7, ck8, PySem.W.mg_of X G g8, ck9, PySem.W.mg_of X G g9, ck10, PySem.W.mg_of X G g10, ck11, PySem.W.mg_of X G g11, ca12, PySem.W.mg_of X G g12, ⟨⟨_, _, ml12, mk12, mm12⟩, mz12⟩, ca13, PySem.W.mg_of X G g13, ⟨⟨_, _, ml13, mk13, mm13⟩, mz13⟩, ck14, PySem.W.mg_of X G g14, PySem.W.mg_none_of X G z0, PySem.W.mg_none_of X G z1, PySem.W.mg_none_of X G z2, PySem.W.mg_none_of X G z3, PySem.W.mg_none_of X G z4, PySem.W.mg_none_of X G z5, PySem.W.mg_none_of X G z6, PySem.W.mg_none_of X G z7, PySem.W.mg_none_of X G z8, PySem.W.mg_none_of X G z9, PySem.W.mg_none_of X G z10⟩)⟩
end Sb
open PySem PySem.W PyProof.Rows in
set_option maxRecDepth 100000 in
set_option maxHeartbeats 0 in
theorem PySem.Challenge.cw_samebuilds_k46_whole_recipe_texts_holds : PySem.Challenge.rw_samebuilds_k46_whole_recipe_texts.Holds := by
  w_on; o_law; k_head; (case hw => w_witness2)
  k_fill
  refine L2.walk_of (l := PySem.Challenge.rw_samebuilds_k46_whole_recipe_texts) (n := 63) (k := 8) (x := "_law_script") (CX := fun _ => L2.CX0) (sp := fun w => Sb.spLaw _) rfl (by decide) rfl ⟨rfl, by decide, by decide⟩ (fun w h Y => PySem.W.kIn_of Y) ?F (fun _ _ a ns hl O hS => ⟨a, ns, rfl, O, hS, hl, fun _ => rfl⟩) (fun _ _ _ _ _ h => h)
  case F =>
    intro w mg fa h KX G hmg
    refine' Sb.all_mk KX G hmg ?sb_a0 ?sb_l0 ?sb_c0 ?sb_k0 ?sb_a1 ?sb_l1 ?sb_c1 ?sb_k1 ?sb_a2 ?sb_l2 ?sb_c2 ?sb_k2 ?sb_a3 ?sb_l3 ?sb_c3 ?sb_k3 ?sb_a4 ?sb_l4 ?sb_c4 ?sb_k4 ?sb_a5 ?sb_l5 ?sb_c5 ?sb_k5 ?sb_a6 ?sb_l6 ?sb_c6 ?sb_k6 ?sb_a7 ?sb_l7 ?sb_c7 ?sb_k7 ?sb_a8 ?sb_l8 ?sb_c8 ?sb_k8 ?sb_a9 ?sb_l9 ?sb_c9 ?sb_k9 ?sb_a10 ?sb_l10 ?sb_c10 ?sb_k10 ?sb_a11 ?sb_l11 ?sb_c11 ?sb_k11 ?sb_a12 ?sb_l12 ?sb_c12 ?sb_k12 ?sb_a13 ?sb_l13 ?sb_c13 ?sb_k13 ?sb_a14 ?sb_l14 ?sb_c14 ?sb_k14 ?sb_a15 ?sb_l15 ?sb_c15 ?sb_k15 ?sb_a16 ?sb_l16 ?sb_c16 ?sb_k16 ?sb_a17 ?sb_l17 ?sb_c17 ?sb_k17 ?sb_a18 ?sb_l18 ?sb_c18 ?sb_k18 ?sb_a19 ?sb_l19 ?sb_c19 ?sb_k19 ?sb_a20 ?sb_l20 ?sb_c20 ?sb_k20 ?sb_a21 ?sb_l21 ?sb_c21 ?sb_k21 ?sb_a22 ?sb_l22 ?sb_c22 ?sb_k22 ?sb_a23 ?sb_l23 ?sb_c23 ?sb_k23 ?sb_a24 ?sb_l24 ?sb_c24 ?sb_k24 ?sb_a25 ?sb_l25 ?sb_c25 ?sb_k25 ?sb_a26 ?sb_l26 ?sb_c26 ?sb_k26 ?sb_a27 ?sb_l27 ?sb_c27 ?sb_k27 ?sb_a28 ?sb_l28 ?sb_c28 ?sb_k28 ?sb_a29 ?sb_l29 ?sb_c29 ?sb_k29 ?sb_g0 ?sb_g1 ?sb_g2 ?sb_g3 ?sb_g4 ?sb_g5 ?sb_g6 ?sb_ml6 ?sb_mk6 ?sb_mm6 ?sb_mz6 ?sb_g7 ?sb_g8 ?sb_g9 ?sb_g10 ?sb_g11 ?sb_g12 ?sb_ml12 ?sb_mk12 ?sb_mm12 ?sb_mz12 ?sb_g13 ?sb_ml13 ?sb_mk13 ?sb_mm13 ?sb_mz13 ?sb_g14 ?sb_z0 ?sb_z1 ?sb_z2 ?sb_z3 ?sb_z4 ?sb_z5 ?sb_z6 ?sb_z7 ?sb_z8 ?sb_z9 ?sb_z10
    (case sb_a0 => k_is)
    (case sb_l0 => k_is)
    (case sb_c0 => k_is)
    (case sb_k0 => k_is)
    (case sb_a1 => k_is)
    (case sb_l1 => k_is)
    (case sb_c1 => k_is)
    (case sb_k1 => k_is)
    (case sb_a2 => k_is)
    (case sb_l2 => k_is)
    (case sb_c2 => k_is)
    (case sb_k2 => k_is)
    (case sb_a3 => k_is)
    (case sb_l3 => k_is)
    (case sb_c3 => k_is)
    (case sb_k3 => k_is)
    (case sb_a4 => k_is)
    (case sb_l4 => k_is)
    (case sb_c4 => k_is)
    (case sb_k4 => k_is)
    (case sb_a5 => k_is)
    (case sb_l5 => k_is)
    (case sb_c5 => k_is)
    (case sb_k5 => k_is)
    (case sb_a6 => k_is)
    (case sb_l6 => k_is)
    (case sb_c6 => k_is)
    (case sb_k6 => k_is)
    (case sb_a7 => k_is)
    (case sb_l7 => k_is)
    (case sb_c7 => k_is)
    (case sb_k7 => k_is)
    (case sb_a8 => k_is)
    (case sb_l8 => k_is)
    (case sb_c8 => k_is)
    (case sb_k8 => k_is)
    (case sb_a9 => k_is)
    (case sb_l9 => k_is)
    (case sb_c9 => k_is)
    (case sb_k9 => k_is)
    (case sb_a10 => k_is)
    (case sb_l10 => k_is)
    (case sb_c10 => k_is)
    (case sb_k10 => k_is)
    (case sb_a11 => k_is)
    (case sb_l11 => k_is)
    (case sb_c11 => k_is)
    (case sb_k11 => k_is)
    (case sb_a12 => k_is)
    (case sb_l12 => k_is)
    (case sb_c12 => k_is)
    (case sb_k12 => k_is)
    (case sb_a13 => k_is)
    (case sb_l13 => k_is)
    (case sb_c13 => k_is)
    (case sb_k13 => k_is)
    (case sb_a14 => k_is)
    (case sb_l14 => k_is)
    (case sb_c14 => k_is)
    (case sb_k14 => k_is)
    (case sb_a15 => k_is)
    (case sb_l15 => k_is)
    (case sb_c15 => k_is)
    (case sb_k15 => k_is)
    (case sb_a16 => k_is)
    (case sb_l16 => k_is)
    (case sb_c16 => k_is)
    (case sb_k16 => k_is)
    (case sb_a17 => k_is)
    (case sb_l17 => k_is)
    (case sb_c17 => k_is)
    (case sb_k17 => k_is)
    (case sb_a18 => k_is)
    (case sb_l18 => k_is)
    (case sb_c18 => k_is)
    (case sb_k18 => k_is)
    (case sb_a19 => k_is)
    (case sb_l19 => k_is)
    (case sb_c19 => k_is)
    (case sb_k19 => k_is)
    (case sb_a20 => k_is)
    (case sb_l20 => k_is)
    (case sb_c20 => k_is)
    (case sb_k20 => k_is)
    (case sb_a21 => k_is)
    (case sb_l21 => k_is)
    (case sb_c21 => k_is)
    (case sb_k21 => k_is)
    (case sb_a22 => k_is)
    (case sb_l22 => k_is)
    (case sb_c22 => k_is)
    (case sb_k22 => k_is)
    (case sb_a23 => k_is)
    (case sb_l23 => k_is)
    (case sb_c23 => k_is)
    (case sb_k23 => k_is)
    (case sb_a24 => k_is)
    (case sb_l24 => k_is)
    (case sb_c24 => k_is)
    (case sb_k24 => k_is)
    (case sb_a25 => k_is)
    (case sb_l25 => k_is)
    (case sb_c25 => k_is)
    (case sb_k25 => k_is)
    (case sb_a26 => k_is)
    (case sb_l26 => k_is)
    (case sb_c26 => k_is)
    (case sb_k26 => k_is)
    (case sb_a27 => k_is)
    (case sb_l27 => k_is)
    (case sb_c27 => k_is)
    (case sb_k27 => k_is)
    (case sb_a28 => k_is)
    (case sb_l28 => k_is)
    (case sb_c28 => k_is)
    (case sb_k28 => k_is)
    (case sb_a29 => k_is)
    (case sb_l29 => k_is)
    (case sb_c29 => k_is)
    (case sb_k29 => k_is)
    (case sb_g0 => k_is)
    (case sb_g1 => k_is)
    (case sb_g2 => k_is)
    (case sb_g3 => k_is)
    (case sb_g4 => k_is)
    (case sb_g5 => k_is)
    (case sb_g6 => k_is)
    (case sb_ml6 => k_is)
    (case sb_mk6 => (repeat' (first | exact True.intro | refine ⟨⟨_, _, rfl, rfl⟩, ?_⟩)))
    (case sb_mm6 => rfl)
    (case sb_mz6 => rfl)
    (case sb_g7 => k_is)
    (case sb_g8 => k_is)
    (case sb_g9 => k_is)
    (case sb_g10 => k_is)
    (case sb_g11 => k_is)
    (case sb_g12 => k_is)
    (case sb_ml12 => k_is)
    (case sb_mk12 => (repeat' (first | exact True.intro | refine ⟨⟨_, _, rfl, rfl⟩, ?_⟩)))
    (case sb_mm12 => rfl)
    (case sb_mz12 => rfl)
    (case sb_g13 => k_is)
    (case sb_ml13 => k_is)
    (case sb_mk13 => (repeat' (first | exact True.intro | refine ⟨⟨_, _, rfl, rfl⟩, ?_⟩)))
    (case sb_mm13 => rfl)
    (case sb_mz13 => rfl)
    (case sb_g14 => k_is)
    (case sb_z0 => k_is)
    (case sb_z1 => k_is)
    (case sb_z2 => k_is)
    (case sb_z3 => k_is)
    (case sb_z4 => k_is)
    (case sb_z5 => k_is)
    (case sb_z6 => k_is)
    (case sb_z7 => k_is)
    (case sb_z8 => k_is)
    (case sb_z9 => k_is)
    (case sb_z10 => k_is)
