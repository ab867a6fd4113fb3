import PyProof.Rows.All
import Wide.All
import OpenK.AllK
import Wide.FinOn
import HandS.ForMost
import HandS.TupAny
import HandS.TupMul
import HandS.IsInst
import HandS.Deep
import HandS.Conv
import HandS.Style
import HandS.SetFor
import HandS.Strs
import HandS.TupSets
import PySem.Challenge.RW_samebuilds_k01_whole_recipes
set_option Elab.async false
set_option linter.all false
set_option maxRecDepth 100000
set_option maxHeartbeats 4000000
/-! Sb, the base: frames of heaps, tuples as data, what the draws ask for; two rules for a module's own dict of texts. -/
namespace Sb
open PySem PySem.Spec PyProof.Rows L2

/-! ### heaps: all but one address stands as it was -/
def Gx (st : Addr) (H H' : Hp) : Prop := ∀ b o, b ≠ st → H b = some o → H' b = some o
theorem Gx.refl (st : Addr) (H : Hp) : Gx st H H := fun _ _ _ h => h
theorem Gx.trans {st : Addr} {H H1 H2 : Hp} (a : Gx st H H1) (b : Gx st H1 H2) : Gx st H H2 := fun c o n h => b c o n (a c o n h)
theorem Gx.of {st : Addr} {H H' : Hp} (h : Same H H') : Gx st H H' := fun b o _ e => h b o e
theorem same_new {H : Hp} {p : Addr} {o : HO} (h : H p = none) : Same H (upd H p o) := fun b x e => by
  rw [upd_ne (ne_of_none e h)]
  exact e
theorem Gx.new {st : Addr} {H : Hp} {p : Addr} {o : HO} (h : H p = none) : Gx st H (upd H p o) := .of (same_new h)
theorem Gx.at_ {st : Addr} {H : Hp} {o : HO} : Gx st H (upd H st o) := fun b x n e => by
  rw [upd_ne n]
  exact e
/-- something new that is changed later -/
theorem Gx.mut {st p : Addr} {H H' : Hp} {o : HO} (g : Gx st H H') (h : H p = none) : Gx st H (upd H' p o) := fun b x n e => by
  rw [upd_ne (ne_of_none e h)]
  exact g b x n e
theorem Gx.free {st l : Addr} {H H' : Hp} (g : Gx st H H') (hs : (H st).isSome) (hs' : (H' st).isSome) (h : H' l = none) : H l = none := by
  cases q : H l with
  | none => rfl
  | some o =>
    by_cases e : l = st
    · subst e
      rw [h] at hs'
      cases hs'
    · rw [g l o e q] at h
      cases h

/-! ### tuples as data -/
mutual
inductive Tp (H : Hp) : V → PyData → Prop
  | non : Tp H .non .none
  | bl (b : Bool) : Tp H (.bl b) (.bool b)
  | int (i : Int) : Tp H (.int i) (.int i)
  | str (x : Str) : Tp H (.str x) (.str x)
  | tup {a : Addr} {xs : List V} {ds : List PyData} : H a = some (.tup xs) → TpAll H xs ds → Tp H (.ref a) (.tuple ds)
inductive TpAll (H : Hp) : List V → List PyData → Prop
  | nil : TpAll H [] []
  | cons {v : V} {vs : List V} {d : PyData} {ds : List PyData} : Tp H v d → TpAll H vs ds → TpAll H (v :: vs) (d :: ds)
end
/-- the tuples stand as they were -/
def KT (H H' : Hp) : Prop := ∀ a xs, H a = some (.tup xs) → H' a = some (.tup xs)
theorem KT.of {H H' : Hp} (h : Same H H') : KT H H' := fun a xs e => h a _ e
theorem KT.trans {H H1 H2 : Hp} (a : KT H H1) (b : KT H1 H2) : KT H H2 := fun c o h => b c o (a c o h)
mutual
theorem Tp.mono {H H' : Hp} (k : KT H H') : ∀ (d : PyData) (v : V), Tp H v d → Tp H' v d
  | .none, _, h => by cases h; exact .non
  | .bool b, _, h => by cases h; exact .bl b
  | .int i, _, h => by cases h; exact .int i
  | .str x, _, h => by cases h; exact .str x
  | .list _, _, h => by cases h
  | .tuple ds, _, h => by
    cases h with
    | tup h1 h2 => exact .tup (k _ _ h1) (TpAll.mono k ds _ h2)
  | .dict _, _, h => by cases h
theorem TpAll.mono {H H' : Hp} (k : KT H H') : ∀ (ds : List PyData) (vs : List V), TpAll H vs ds → TpAll H' vs ds
  | [], _, h => by cases h; exact .nil
  | d :: ds, _, h => by
    cases h with
    | cons h1 h2 => exact .cons (Tp.mono k d _ h1) (TpAll.mono k ds _ h2)
end
mutual
theorem Tp.dp {K : PySem.W.Frag} {H : Hp} : ∀ (d : PyData) (v : V), Tp H v d → Dp K H v d
  | .none, _, h => by cases h; exact .non
  | .bool b, _, h => by cases h; exact .bl b
  | .int i, _, h => by cases h; exact .int i
  | .str x, _, h => by cases h; exact .str x
  | .list _, _, h => by cases h
  | .tuple ds, _, h => by
    cases h with
    | tup h1 h2 => exact .tup (.inl (.inl h1)) (TpAll.dp ds _ h2)
  | .dict _, _, h => by cases h
theorem TpAll.dp {K : PySem.W.Frag} {H : Hp} : ∀ (ds : List PyData) (vs : List V), TpAll H vs ds → DpAll K H vs ds
  | [], _, h => by cases h; exact .nil
  | d :: ds, _, h => by
    cases h with
    | cons h1 h2 => exact .cons (Tp.dp d _ h1) (TpAll.dp ds _ h2)
end
theorem ex_sqT {K : PySem.W.Frag} {H H' : Hp} {a : Addr} {xs : List V} (e : Same H H') (h : SqT K H a xs) : SqT K H' a xs := by
  rcases h with (h | ⟨o, h⟩) | h
  · exact .inl (.inl (e _ _ h))
  · exact .inl (.inr ⟨o, e _ _ h⟩)
  · exact .inr h
mutual
theorem Dp.mono {K : PySem.W.Frag} {H H' : Hp} (k : Same H H') : ∀ (d : PyData) (v : V), Dp K H v d → Dp K H' v d
  | .none, _, h => by cases h; exact .non
  | .bool b, _, h => by cases h; exact .bl b
  | .int i, _, h => by cases h; exact .int i
  | .str x, _, h => by cases h; exact .str x
  | .list ds, _, h => by
    cases h with
    | lst h1 h2 => exact .lst (k.seq h1) (DpAll.mono k ds _ h2)
  | .tuple ds, _, h => by
    cases h with
    | tup h1 h2 => exact .tup (ex_sqT k h1) (DpAll.mono k ds _ h2)
  | .dict _, _, h => by cases h
theorem DpAll.mono {K : PySem.W.Frag} {H H' : Hp} (k : Same H H') : ∀ (ds : List PyData) (vs : List V), DpAll K H vs ds → DpAll K H' vs ds
  | [], _, h => by cases h; exact .nil
  | d :: ds, _, h => by
    cases h with
    | cons h1 h2 => exact .cons (Dp.mono k d _ h1) (DpAll.mono k ds _ h2)
end
theorem DpAll.len {K : PySem.W.Frag} {H : Hp} : ∀ {vs : List V} {ds : List PyData}, DpAll K H vs ds → vs.length = ds.length
  | [], _, h => by cases h; rfl
  | _ :: _, _, h => by
    cases h with
    | cons _ h2 => simp only [List.length_cons, DpAll.len h2]
theorem TpAll.len {H : Hp} : ∀ {vs : List V} {ds : List PyData}, TpAll H vs ds → vs.length = ds.length
  | [], _, h => by cases h; rfl
  | _ :: _, _, h => by
    cases h with
    | cons _ h2 => simp only [List.length_cons, TpAll.len h2]
theorem DpAll.get {K : PySem.W.Frag} {H : Hp} : ∀ {vs : List V} {ds : List PyData} {i : Nat} {v : V}, DpAll K H vs ds → vs[i]? = some v → ∃ d, ds[i]? = some d ∧ Dp K H v d
  | [], _, _, _, h, e => by simp at e
  | _ :: _, _, 0, _, h, e => by
    cases h with
    | cons h1 _ =>
      simp at e
      subst e
      exact ⟨_, rfl, h1⟩
  | _ :: _, _, i + 1, _, h, e => by
    cases h with
    | cons _ h2 =>
      obtain ⟨d, h3, h4⟩ := DpAll.get (i := i) h2 (by simpa using e)
      exact ⟨d, by simpa using h3, h4⟩
theorem DpAll.got {K : PySem.W.Frag} {H : Hp} {vs : List V} {ds : List PyData} {i : Nat} {d : PyData} (h : DpAll K H vs ds) (e : ds[i]? = some d) : ∃ v, vs[i]? = some v ∧ Dp K H v d := by
  have hi : i < vs.length := by
    rw [DpAll.len h]
    exact (List.getElem?_eq_some_iff.mp e).1
  obtain ⟨d', h1, h2⟩ := DpAll.get h (List.getElem?_eq_getElem hi)
  rw [e] at h1
  cases h1
  exact ⟨_, List.getElem?_eq_getElem hi, h2⟩
theorem TpAll.app {H : Hp} : ∀ {vs ws : List V} {ds es : List PyData}, TpAll H vs ds → TpAll H ws es → TpAll H (vs ++ ws) (ds ++ es)
  | [], _, _, _, h, g => by cases h; exact g
  | _ :: _, _, _, _, h, g => by
    cases h with
    | cons h1 h2 => exact .cons h1 (TpAll.app h2 g)
theorem TpAll.ints {H : Hp} : ∀ ns : List Int, TpAll H (ns.map V.int) (ns.map PyData.int)
  | [] => .nil
  | n :: ns => .cons (.int n) (TpAll.ints ns)
theorem TpAll.strs {H : Hp} : ∀ ns : List Str, TpAll H (ns.map V.str) (ns.map PyData.str)
  | [] => .nil
  | n :: ns => .cons (.str n) (TpAll.strs ns)
theorem DpAll.ints {K : PySem.W.Frag} {H : Hp} (ns : List Int) : DpAll K H (ns.map V.int) (ns.map PyData.int) := TpAll.dp _ _ (TpAll.ints ns)

/-- a new tuple -/
theorem tup_new {H : Hp} {xs : List V} {ds : List PyData} {Q : VK} (hT : TpAll H xs ds) (k : ∀ p H', Same H H' → H p = none → H' p = some (.tup xs) → Tp H' (.ref p) (.tuple ds) → Q (.ref p) H') : ∀ p, H p = none → Q (.ref p) (upd H p (.tup xs)) :=
  fun p hp => k p _ (same_new hp) hp upd_same (.tup upd_same (TpAll.mono (KT.of (same_new hp)) _ _ hT))
theorem TpAll.get {H : Hp} : ∀ {vs : List V} {ds : List PyData} {v : V}, TpAll H vs ds → v ∈ vs → ∃ d, d ∈ ds ∧ Tp H v d
  | [], _, _, _, e => by cases e
  | x :: _, _, v, h, e => by
    cases h with
    | cons h1 h2 =>
      rcases List.mem_cons.mp e with e | e
      · subst e
        exact ⟨_, List.mem_cons_self, h1⟩
      · obtain ⟨d, h3, h4⟩ := TpAll.get h2 e
        exact ⟨d, List.mem_cons_of_mem _ h3, h4⟩
theorem TpAll.take {H : Hp} : ∀ {vs : List V} {ds : List PyData} (n : Nat), TpAll H vs ds → TpAll H (vs.take n) (ds.take n)
  | _, _, 0, _ => .nil
  | _, _, _ + 1, .nil => .nil
  | _, _, n + 1, .cons h1 h2 => .cons h1 (TpAll.take n h2)

/-! ### what == takes -/
theorem lay_ints : ∀ ns : List Int, PyData.canLayAll0 (ns.map PyData.int) = true
  | [] => rfl
  | n :: ns => by
    rw [List.map_cons, PyData.canLayAll0, lay_ints ns]
    rfl
theorem dep_ints : ∀ ns : List Int, PyData.depthAll (ns.map PyData.int) = 0
  | [] => rfl
  | n :: ns => by
    rw [List.map_cons, PyData.depthAll, dep_ints ns]
    rfl
theorem shaped_of {d : PyData} (h : d.canLay0 = true) (k : d.depth ≤ 64) : SeqAt.shaped d = true := by
  unfold SeqAt.shaped
  rw [h, decide_eq_true k]
  rfl
theorem shaped_ints (ns : List Int) : SeqAt.shaped (.list (ns.map PyData.int)) = true :=
  shaped_of (by rw [PyData.canLay0]; exact lay_ints ns) (by rw [PyData.depth, dep_ints]; omega)
theorem shaped_nil : SeqAt.shaped (.list []) = true := shaped_ints []
theorem eqvAll_nil : ∀ ds : List PyData, PyData.eqvAll ds [] = ds.isEmpty
  | [] => rfl
  | _ :: _ => rfl
theorem eqv_nil (ds : List PyData) : PyData.eqv (.list ds) (.list []) = ds.isEmpty := by
  rw [PyData.eqv, eqvAll_nil]

/-! ### a module's own dict of texts to ints -/
def keyD (e : DictEntry) : Option Str := match e.key with
  | .str x _ => some x
  | _ => none
def valD (e : DictEntry) : Option Int := match e.val with
  | .int i _ => some i
  | _ => none
def lookM : List (Str × Int) → Str → Option Int
  | [], _ => none
  | (y, i) :: r, x => if y = x then some i else lookM r x
structure KDm (K : PySem.W.Frag) (w : World) (a : Addr) (m : List (Str × Int)) : Prop where
  ex : ∃ es n, K.lookup a = some ⟨.type "dict", none, .dict es n, #[]⟩ ∧ PySem.W.KeysLit w.params es.toList ∧ es.toList.map (fun e => (keyD e, valD e)) = m.map fun p => (some p.1, some p.2)
  low : (a == sysModules) = false
theorem find_dm : ∀ {es : List DictEntry} {m : List (Str × Int)}, es.map (fun e => (keyD e, valD e)) = m.map (fun p => (some p.1, some p.2)) → ∀ x : Str,
    (lookM m x = none → (es.find? fun e => Value.isStrOf x e.key) = none) ∧ ∀ i, lookM m x = some i → ∃ e t, (es.find? fun e => Value.isStrOf x e.key) = some e ∧ e.val = .int i t
  | [], [], _, x => ⟨fun _ => rfl, fun i h => by cases h⟩
  | [], _ :: _, h, _ => by simp at h
  | _ :: _, [], h, _ => by simp at h
  | e :: es, (y, j) :: m, h, x => by
    rw [List.map_cons, List.map_cons] at h
    injection h with h1 h2
    have hk : keyD e = some y := congrArg Prod.fst h1
    have hv : valD e = some j := congrArg Prod.snd h1
    obtain ⟨t, ek⟩ : ∃ t, e.key = .str y t := by
      unfold keyD at hk
      split at hk
      · rename_i z t q
        cases hk
        exact ⟨t, q⟩
      · cases hk
    obtain ⟨t', ev⟩ : ∃ t, e.val = .int j t := by
      unfold valD at hv
      split at hv
      · rename_i z t q
        cases hv
        exact ⟨t, q⟩
      · cases hv
    have hb : Value.isStrOf x e.key = (y == x) := by rw [ek]; rfl
    have ih := find_dm h2 x
    by_cases hx : y = x
    · have hl : lookM ((y, j) :: m) x = some j := by unfold lookM; rw [if_pos hx]
      have hf : (List.find? (fun e => Value.isStrOf x e.key) (e :: es)) = some e := List.find?_cons_of_pos (by rw [hb]; exact beq_iff_eq.mpr hx)
      rw [hl, hf]
      exact ⟨fun q => (nomatch q), fun i q => ⟨e, t', rfl, by rw [← Option.some.inj q]; exact ev⟩⟩
    · have hl : lookM ((y, j) :: m) x = lookM m x := by conv => lhs; unfold lookM; rw [if_neg hx]
      have hf : (List.find? (fun e => Value.isStrOf x e.key) (e :: es)) = List.find? (fun e => Value.isStrOf x e.key) es := List.find?_cons_of_neg (by rw [hb]; exact fun q => hx (beq_iff_eq.mp q))
      rw [hl, hf]
      exact ih
def rInDm (K : PySem.W.Frag) (w : World) (neg : Bool) : R2 := fun x y H Q => ∃ p z m, x = .str z ∧ y = .ref p ∧ KDm K w p m ∧ Q (.bl (if neg then !(lookM m z).isSome else (lookM m z).isSome)) H
def rIxDm (K : PySem.W.Frag) (w : World) : R2 := fun x y H Q => ∃ p z m i, x = .ref p ∧ y = .str z ∧ KDm K w p m ∧ lookM m z = some i ∧ Q (.int i) H
section
variable {X : Cx}
theorem dm_some {K : PySem.W.Frag} {es : Array DictEntry} {m : List (Str × Int)} (h : es.toList.map (fun e => (keyD e, valD e)) = m.map fun p => (some p.1, some p.2)) (z : Str) : (findBy Value.isStrOf es z).isSome = (lookM m z).isSome := by
  have q := find_dm h z
  unfold findBy
  rw [← Array.find?_toList]
  cases e : lookM m z with
  | none => rw [q.1 e]; rfl
  | some i =>
    obtain ⟨d, t, e1, e2⟩ := q.2 i e
    rw [e1]
    rfl
theorem op_inDm : OpR X (compareOp .In) (rInDm X.K X.w false) := by
  intro pins s σ H x y v u Q I rx ry h
  obtain ⟨p, z, m, rfl, rfl, D, q⟩ := h
  obtain ⟨es, n, hl, hk, hm⟩ := D.ex
  obtain rfl : u = Value.ref p := ry
  obtain ⟨t, rfl⟩ := rx
  refine wpAny_in_of (strKind_is X.prog X.w z t) D.low (PySem.W.mapOf_K (prog := X.prog) (w := X.w) I.kIn hl hk) ⟨.bl _, H, I.tok _, rfl, ?_⟩
  rw [dm_some (K := X.K) hm z]
  exact q
theorem op_notInDm : OpR X (compareOp .NotIn) (rInDm X.K X.w true) := by
  intro pins s σ H x y v u Q I rx ry h
  obtain ⟨p, z, m, rfl, rfl, D, q⟩ := h
  obtain ⟨es, n, hl, hk, hm⟩ := D.ex
  obtain rfl : u = Value.ref p := ry
  obtain ⟨t, rfl⟩ := rx
  refine wpAny_notIn_of (strKind_is X.prog X.w z t) D.low (PySem.W.mapOf_K (prog := X.prog) (w := X.w) I.kIn hl hk) ⟨.bl _, H, I.tok _, rfl, ?_⟩
  rw [dm_some (K := X.K) hm z]
  exact q
theorem ix_dm : IxR X (rIxDm X.K X.w) := by
  intro value slice pins s σ H x y v u Q I rx ry h hs
  obtain ⟨p, z, m, i, rfl, rfl, D, e, q⟩ := h
  obtain ⟨es, n, hl, hk, hm⟩ := D.ex
  obtain rfl : v = Value.ref p := rx
  obtain ⟨t, rfl⟩ := ry
  obtain ⟨d, t', e1, e2⟩ := (find_dm hm z).2 i e
  have M := PySem.W.mapOf_K (prog := X.prog) (w := X.w) I.kIn hl hk
  have hf : findBy Value.isStrOf es z = some (.int i t') := by
    unfold findBy
    rw [← Array.find?_toList, e1]
    show some d.val = _
    rw [e2]
  exact tail_any M.typeIs slot_dict_getitem.lookup (wpAny_getItem_of (strKind_is X.prog X.w z t) M hf ⟨.int i, H, I.tok _, ⟨_, rfl⟩, q⟩) hs
theorem OpR.or' {f : Value → Value → Sem Value} {r r' : R2} (h : OpR X f r) (h' : OpR X f r') : OpR X f (fun x y H Q => r x y H Q ∨ r' x y H Q) := by
  intro pins s σ H x y v u Q I rx ry q
  rcases q with q | q
  · exact h pins s σ H x y v u Q I rx ry q
  · exact h' pins s σ H x y v u Q I rx ry q
end

/-! ### what a draw asks for: the script, the state -/
structure En (K : PySem.W.Frag) (a st : Addr) (ns : List Int) (n : Nat) (H : Hp) : Prop where
  sq : ∀ H', Gx st H H' → SqL K H' a (ns.map V.int)
  len : ns.length ≤ 63
  zs : ∃ zs, H st = some (.lst zs) ∧ zs.length ≤ n
  small : n ≤ 100000
section
variable {K : PySem.W.Frag} {a st : Addr} {ns : List Int} {n m : Nat} {H H' : Hp}
theorem En.next (E : En K a st ns n H) (g : Gx st H H') (z : ∃ zs, H' st = some (.lst zs) ∧ zs.length ≤ m) (hm : m ≤ 100000) : En K a st ns m H' :=
  ⟨fun H2 g2 => E.sq H2 (g.trans g2), E.len, z, hm⟩
theorem En.kt (E : En K a st ns n H) (g : Gx st H H') : KT H H' := fun b xs h => by
  obtain ⟨zs, e, _⟩ := E.zs
  exact g b _ (ne_of h e (by intro z; cases z)) h
theorem En.st_ne (E : En K a st ns n H) {p : Addr} (h : H p = none) : p ≠ st := fun e => by
  obtain ⟨zs, q, _⟩ := E.zs
  rw [e, q] at h
  cases h
theorem En.some_ (E : En K a st ns n H) : (H st).isSome := by
  obtain ⟨zs, q, _⟩ := E.zs
  rw [q]
  rfl
theorem En.more (E : En K a st ns n H) (h : n ≤ m) (hm : m ≤ 100000) : En K a st ns m H := E.next (Gx.refl _ _) (by obtain ⟨zs, e, l⟩ := E.zs; exact ⟨zs, e, Nat.le_trans l h⟩) hm
/-- something other than the state is laid or changed -/
theorem En.lay (E : En K a st ns n H) {p : Addr} {o : HO} (h : H p = none) : En K a st ns n (upd H p o) := by
  have hne := E.st_ne h
  exact E.next (Gx.new h) (by obtain ⟨zs, e, l⟩ := E.zs; exact ⟨zs, by rw [upd_ne hne.symm]; exact e, l⟩) E.small
theorem En.sqT {p : Addr} {xs : List V} (E : En K a st ns n H) (g : Gx st H H') (h : SqT K H p xs) : SqT K H' p xs := by
  obtain ⟨zs, e, _⟩ := E.zs
  rcases h with (h | ⟨o, h⟩) | h
  · exact .inl (.inl (g p _ (ne_of h e (by intro z; cases z)) h))
  · exact .inl (.inr ⟨o, g p _ (ne_of h e (by intro z; cases z)) h⟩)
  · exact .inr h
theorem En.lst (E : En K a st ns n H) : SqL K H a (ns.map V.int) := E.sq H (Gx.refl _ _)
end
end Sb

namespace Sb
open PySem PySem.Spec PyProof.Rows L2
/-! ### what kind a datum is -/
def tyD : PyData → String
  | .none => "NoneType"
  | .bool _ => "bool"
  | .int _ => "int"
  | .str _ => "str"
  | .list _ => "list"
  | .tuple _ => "tuple"
  | .dict _ => "dict"
def isInt : PyData → Bool
  | .int _ => true
  | .bool _ => true
  | _ => false
def isBool : PyData → Bool
  | .bool _ => true
  | _ => false
def isStr : PyData → Bool
  | .str _ => true
  | _ => false
def isTup : PyData → Bool
  | .tuple _ => true
  | _ => false
theorem kit_int (K : PySem.W.Frag) : ∀ d, PySem.W.kitOne K (.type (tyD d)) (.type "int") = some (isInt d)
  | .none => kit_ty (by show kitB "NoneType" "int" = some false; decide +kernel)
  | .bool _ => kit_ty (by show kitB "bool" "int" = some true; decide +kernel)
  | .int _ => kit_ty (by show kitB "int" "int" = some true; decide +kernel)
  | .str _ => kit_ty (by show kitB "str" "int" = some false; decide +kernel)
  | .list _ => kit_ty (by show kitB "list" "int" = some false; decide +kernel)
  | .tuple _ => kit_ty (by show kitB "tuple" "int" = some false; decide +kernel)
  | .dict _ => kit_ty (by show kitB "dict" "int" = some false; decide +kernel)
theorem kit_bool (K : PySem.W.Frag) : ∀ d, PySem.W.kitOne K (.type (tyD d)) (.type "bool") = some (isBool d)
  | .none => kit_ty (by show kitB "NoneType" "bool" = some false; decide +kernel)
  | .bool _ => kit_ty (by show kitB "bool" "bool" = some true; decide +kernel)
  | .int _ => kit_ty (by show kitB "int" "bool" = some false; decide +kernel)
  | .str _ => kit_ty (by show kitB "str" "bool" = some false; decide +kernel)
  | .list _ => kit_ty (by show kitB "list" "bool" = some false; decide +kernel)
  | .tuple _ => kit_ty (by show kitB "tuple" "bool" = some false; decide +kernel)
  | .dict _ => kit_ty (by show kitB "dict" "bool" = some false; decide +kernel)
theorem kit_str (K : PySem.W.Frag) : ∀ d, PySem.W.kitOne K (.type (tyD d)) (.type "str") = some (isStr d)
  | .none => kit_ty (by show kitB "NoneType" "str" = some false; decide +kernel)
  | .bool _ => kit_ty (by show kitB "bool" "str" = some false; decide +kernel)
  | .int _ => kit_ty (by show kitB "int" "str" = some false; decide +kernel)
  | .str _ => kit_ty (by show kitB "str" "str" = some true; decide +kernel)
  | .list _ => kit_ty (by show kitB "list" "str" = some false; decide +kernel)
  | .tuple _ => kit_ty (by show kitB "tuple" "str" = some false; decide +kernel)
  | .dict _ => kit_ty (by show kitB "dict" "str" = some false; decide +kernel)
theorem kit_tup (K : PySem.W.Frag) : ∀ d, PySem.W.kitOne K (.type (tyD d)) (.type "tuple") = some (isTup d)
  | .none => kit_ty (by show kitB "NoneType" "tuple" = some false; decide +kernel)
  | .bool _ => kit_ty (by show kitB "bool" "tuple" = some false; decide +kernel)
  | .int _ => kit_ty (by show kitB "int" "tuple" = some false; decide +kernel)
  | .str _ => kit_ty (by show kitB "str" "tuple" = some false; decide +kernel)
  | .list _ => kit_ty (by show kitB "list" "tuple" = some false; decide +kernel)
  | .tuple _ => kit_ty (by show kitB "tuple" "tuple" = some true; decide +kernel)
  | .dict _ => kit_ty (by show kitB "dict" "tuple" = some false; decide +kernel)
theorem sqL_ty {K : PySem.W.Frag} {H : Hp} {a : Addr} {xs : List V} (h : SqL K H a xs) : TyX K H (.ref a) (.type "list") := by
  rcases h with (h | ⟨o, h⟩) | ⟨o, its, n, h, c, _⟩
  · exact .base (.lst h)
  · exact .base (.frz h)
  · exact .kList h c
theorem sqT_ty {K : PySem.W.Frag} {H : Hp} {a : Addr} {xs : List V} (h : SqT K H a xs) : TyX K H (.ref a) (.type "tuple") := by
  rcases h with (h | ⟨o, h⟩) | ⟨o, its, n, h, c, _⟩
  · exact .base (.tup h)
  · exact .fTuple h
  · exact .kTuple h c
theorem dp_ty {K : PySem.W.Frag} {H : Hp} {v : V} {d : PyData} (h : Dp K H v d) : TyX K H v (.type (tyD d)) := by
  cases h with
  | non => exact .base .non
  | bl b => exact .base (.bl b)
  | int i => exact .base (.int i)
  | str x => exact .base (.str x)
  | lst hs _ => exact sqL_ty hs
  | tup hs _ => exact sqT_ty hs

/-! ### texts of some size within a datum -/
mutual
def smD : PyData → Bool
  | .str x => decide (x.length ≤ 100000)
  | .list xs => smDs xs
  | .tuple xs => smDs xs
  | .none => true
  | .bool _ => true
  | .int _ => true
  | .dict _ => true
def smDs : List PyData → Bool
  | [] => true
  | x :: xs => smD x && smDs xs
end
theorem smDs_get : ∀ {ds : List PyData} {i : Nat} {d : PyData}, smDs ds = true → ds[i]? = some d → smD d = true
  | [], _, _, _, e => by simp at e
  | x :: xs, 0, _, h, e => by
    rw [smDs, Bool.and_eq_true] at h
    simp at e
    rw [← e]
    exact h.1
  | x :: xs, i + 1, _, h, e => by
    rw [smDs, Bool.and_eq_true] at h
    exact smDs_get h.2 (by simpa using e)

/-! ### the program's answers -/
def numD : PyData → Int → Int → Bool
  | .int i, lo, hi => decide (lo ≤ i) && decide (i ≤ hi)
  | _, _, _ => false
def tupD : PyData → Int → Int → Bool
  | .tuple ds, lo, hi => decide (lo ≤ (ds.length : Int)) && decide ((ds.length : Int) ≤ hi)
  | _, _, _ => false
def letterOk (c : Nat) : Bool := decide (97 ≤ c) && decide (c ≤ 122)
def textD : PyData → Int → Bool
  | .str z, n => decide ((z.length : Int) ≤ n) && z.cps.toList.all letterOk
  | _, _ => false
def ltD : PyData → PyData → Bool
  | .int i, .int j => decide (i < j)
  | .str x, .str y => decide (x.cps.toList < y.cps.toList)
  | .tuple [.str x, .int i, .int j], .tuple [.str y, .int k, .int l] => decide (x.cps.toList < y.cps.toList) || (decide (x = y) && (decide (i < k) || (decide (i = k) && decide (j < l))))
  | _, _ => false
def ascD : List PyData → Bool
  | x :: y :: r => ltD x y && ascD (y :: r)
  | _ => true
def seqD : PyData → List PyData
  | .tuple ds => ds
  | _ => []
def thingD (d : PyData) : Bool := tupD d 1 4 && (seqD d).all (fun x => textD x 4) && ascD (seqD d)
def prodD : List PyData → Nat
  | [] => 1
  | d :: r => (seqD d).length * prodD r
def thingsD (d : PyData) : Bool := tupD d 1 5 && (seqD d).all thingD && decide (prodD (seqD d) ≤ 256)
def readingD : PyData → Int → Int → Bool
  | .tuple [.str w, d], m, s => if w = "thing" then numD d 0 (m - 1) else decide (w = ("step" : Str)) && numD d 0 (s - 1)
  | _, _, _ => false
def mREADINGS' : List (Str × Int) := [("join", 2), ("sort", 1), ("turn", 1), ("first", 1), ("rest", 1), ("less", 2), ("same", 2), ("pick", 3)]
def stepD : PyData → Int → Int → Bool
  | .tuple [.str o, rs], m, s => match lookM mREADINGS' o with
    | some k => tupD rs k k && (seqD rs).all (fun x => readingD x m s)
    | none => false
  | _, _, _ => false
def stepsAllD : List PyData → Int → Nat → Bool
  | [], _, _ => true
  | d :: r, m, s => stepD d m (s : Int) && stepsAllD r m (s + 1)
def stepsD (d : PyData) (m : Int) : Bool := tupD d 1 8 && stepsAllD (seqD d) m 0
def madeD (d : PyData) (s : Int) : Bool := tupD d 1 3 && (seqD d).all (fun x => numD x 0 (s - 1)) && ascD (seqD d)
def recipeD : PyData → Bool
  | .tuple [t, s, m] => thingsD t && (stepsD s ((seqD t).length : Int) && madeD m ((seqD s).length : Int))
  | _ => false
end Sb

namespace Sb
open PySem PySem.Spec PyProof.Rows L2
/-! ### >= of data of one kind -/
def cmpOk : PyData → PyData → Prop
  | .int _, .int _ => True
  | .str _, .str _ => True
  | _, _ => False
def rGeV (K : PySem.W.Frag) : R2 := fun x y H Q => ∃ d e, Dp K H x d ∧ Dp K H y e ∧ cmpOk d e ∧ Q (.bl (!ltD d e)) H
theorem op_geV {X : Cx} : OpR X (compareOp .GtE) (rGeV X.K) := by
  intro pins s σ H x y v u Q I rx ry h
  obtain ⟨d, e, hd, he, hc, q⟩ := h
  cases hd with
  | int i =>
    cases he with
    | int j =>
      refine op_ge pins s σ H _ _ v u Q I rx ry ⟨i, j, rfl, rfl, ?_⟩
      have e1 : decide (j ≤ i) = !ltD (.int i) (.int j) := by
        show decide (j ≤ i) = !decide (i < j)
        by_cases h : i < j
        · rw [decide_eq_true h, decide_eq_false (by omega)]; rfl
        · rw [decide_eq_false h, decide_eq_true (by omega)]; rfl
      show Q (.bl (decide (j ≤ i))) H
      rw [e1]
      exact q
    | _ => exact hc.elim
  | str z =>
    cases he with
    | str z' => exact op_ge_str pins s σ H _ _ v u Q I rx ry ⟨z, z', rfl, rfl, q⟩
    | _ => exact hc.elim
  | non => exact hc.elim
  | bl _ => exact hc.elim
  | lst _ _ => exact hc.elim
  | tup _ _ => exact hc.elim
theorem asc_of : ∀ {ds : List PyData}, (∀ (j : Nat) (x y : PyData), ds[j]? = some x → ds[j + 1]? = some y → ltD x y = true) → ascD ds = true
  | [], _ => rfl
  | [_], _ => rfl
  | x :: y :: r, h => by
    rw [ascD, h 0 x y rfl rfl, asc_of (ds := y :: r) fun j a b ea eb => h (j + 1) a b ea eb]
    rfl
theorem asc_at : ∀ {ds : List PyData} {j : Nat} {x y : PyData}, ascD ds = true → ds[j]? = some x → ds[j + 1]? = some y → ltD x y = true
  | [], _, _, _, _, e, _ => by simp at e
  | [_], 0, _, _, _, _, e => by simp at e
  | [_], j + 1, _, _, _, e, _ => by simp at e
  | a :: b :: r, 0, x, y, h, e1, e2 => by
    rw [ascD, Bool.and_eq_true] at h
    cases e1
    cases e2
    exact h.1
  | a :: b :: r, j + 1, x, y, h, e1, e2 => by
    rw [ascD, Bool.and_eq_true] at h
    exact asc_at (ds := b :: r) h.2 e1 e2
theorem asc_not {ds : List PyData} {j : Nat} {x y : PyData} (e1 : ds[j]? = some x) (e2 : ds[j + 1]? = some y) (h : ltD x y = false) : ascD ds = false := by
  cases q : ascD ds with
  | false => rfl
  | true => rw [asc_at q e1 e2] at h; cases h
end Sb

/-! Sb, evaluation over data: I the part of the heap that nobody changes (all tuples, the lists that stay); what an expression evaluates to, as data. -/
namespace Sb
open PySem PySem.Spec PyProof.Rows L2

structure Im (I H : Hp) : Prop where
  sub : Same I H
  tup : ∀ b xs, H b = some (.tup xs) → I b = some (.tup xs)
structure Ext (I H I' H' : Hp) : Prop where
  im : Im I' H'
  ii : Same I I'
  hh : Same H H'
  old : ∀ b o, H b = some o → I' b = I b
theorem Ext.refl {I H : Hp} (m : Im I H) : Ext I H I H := ⟨m, Same.refl _, Same.refl _, fun _ _ _ => rfl⟩
theorem Ext.trans {I H I1 H1 I2 H2 : Hp} (a : Ext I H I1 H1) (b : Ext I1 H1 I2 H2) : Ext I H I2 H2 :=
  ⟨b.im, a.ii.trans b.ii, a.hh.trans b.hh, fun c o e => (b.old c o (a.hh c o e)).trans (a.old c o e)⟩
/-- a new object that stays -/
theorem Ext.lay {I H : Hp} {p : Addr} {o : HO} (m : Im I H) (hp : H p = none) : Ext I H (upd I p o) (upd H p o) := by
  have ip : I p = none := m.sub.free hp
  refine ⟨⟨fun b x e => ?_, fun b xs e => ?_⟩, same_new ip, same_new hp, fun b x e => ?_⟩
  · by_cases h : b = p
    · subst h
      rw [upd_same] at e ⊢
      exact e
    · rw [upd_ne h] at e ⊢
      exact m.sub _ _ e
  · by_cases h : b = p
    · subst h
      rw [upd_same] at e ⊢
      exact e
    · rw [upd_ne h] at e ⊢
      exact m.tup _ _ e
  · rw [upd_ne (ne_of_none e hp)]
/-- a new list that will change -/
theorem Ext.cell {I H : Hp} {p : Addr} {xs : List V} (m : Im I H) (hp : H p = none) : Ext I H I (upd H p (.lst xs)) := by
  refine ⟨⟨fun b x e => same_new hp _ _ (m.sub _ _ e), fun b ys e => ?_⟩, Same.refl _, same_new hp, fun _ _ _ => rfl⟩
  by_cases h : b = p
  · subst h
    rw [upd_same] at e
    cases e
  · rw [upd_ne h] at e
    exact m.tup _ _ e
/-- a cell is changed -/
theorem Im.put {I H : Hp} {p : Addr} {xs : List V} (m : Im I H) (ip : I p = none) : Im I (upd H p (.lst xs)) := by
  refine ⟨fun b x e => ?_, fun b ys e => ?_⟩
  · rw [upd_ne (ne_of_none e ip)]
    exact m.sub _ _ e
  · by_cases h : b = p
    · subst h
      rw [upd_same] at e
      cases e
    · rw [upd_ne h] at e
      exact m.tup _ _ e
/-- behind a call that changes the state alone -/
def imOf (I H H' : Hp) : Hp := fun b => match H b with
  | none => H' b
  | some _ => I b
theorem im_call {I H H' : Hp} {st : Addr} (m : Im I H) (g : Gx st H H') (is : I st = none) (hs : ∃ zs, H st = some (.lst zs)) (hs' : ∃ zs, H' st = some (.lst zs)) :
    Im (imOf I H H') H' ∧ Same I (imOf I H H') ∧ ∀ b o, H b = some o → imOf I H H' b = I b := by
  have old : ∀ b o, H b = some o → imOf I H H' b = I b := fun b o e => by unfold imOf; rw [e]
  have ii : Same I (imOf I H H') := fun b o e => by
    rw [old b o (m.sub _ _ e)]
    exact e
  refine ⟨⟨fun b o e => ?_, fun b xs e => ?_⟩, ii, old⟩
  · cases q : H b with
    | none => unfold imOf at e; rw [q] at e; exact e
    | some x =>
      rw [old b x q] at e
      have : b ≠ st := ne_of_none e is
      have e2 := m.sub _ _ e
      exact g b o this e2
  · cases q : H b with
    | none => unfold imOf; rw [q]; exact e
    | some x =>
      have hb : b ≠ st := fun z => by
        obtain ⟨zs, hz⟩ := hs'
        rw [z, hz] at e
        cases e
      have e2 := g b x hb q
      rw [e] at e2
      cases e2
      rw [old b _ q]
      exact m.tup _ _ q
mutual
theorem Tp.im {K : PySem.W.Frag} {I H : Hp} (m : Im I H) : ∀ (d : PyData) (v : V), Tp H v d → Dp K I v d
  | .none, _, h => by cases h; exact .non
  | .bool b, _, h => by cases h; exact .bl b
  | .int i, _, h => by cases h; exact .int i
  | .str x, _, h => by cases h; exact .str x
  | .list _, _, h => by cases h
  | .tuple ds, _, h => by
    cases h with
    | tup h1 h2 => exact .tup (.inl (.inl (m.tup _ _ h1))) (TpAll.im m ds _ h2)
  | .dict _, _, h => by cases h
theorem TpAll.im {K : PySem.W.Frag} {I H : Hp} (m : Im I H) : ∀ (ds : List PyData) (vs : List V), TpAll H vs ds → DpAll K I vs ds
  | [], _, h => by cases h; exact .nil
  | d :: ds, _, h => by
    cases h with
    | cons h1 h2 => exact .cons (Tp.im m d _ h1) (TpAll.im m ds _ h2)
end

/-! ### what an expression evaluates to -/
def EvD (K : PySem.W.Frag) (te : TE) (σ : L2.St) (I : Hp) (d : PyData) : Prop := ∀ I1 H1, Same I I1 → Im I1 H1 → ∀ Q : VK, (∀ v I2 H2, Ext I1 H1 I2 H2 → Dp K I2 v d → Q v H2) → te σ H1 Q
def EvDs (K : PySem.W.Frag) (ta : TA) (σ : L2.St) (I : Hp) (ds : List PyData) : Prop := ∀ I1 H1, Same I I1 → Im I1 H1 → ∀ Q : List V → Hp → Prop, (∀ vs I2 H2, Ext I1 H1 I2 H2 → DpAll K I2 vs ds → Q vs H2) → ta σ H1 Q
/-- a new list that may be changed later -/
def EvC (K : PySem.W.Frag) (te : TE) (σ : L2.St) (I : Hp) (ds : List PyData) : Prop := ∀ I1 H1, Same I I1 → Im I1 H1 → ∀ Q : VK, (∀ p vs I2 H2, Ext I1 H1 I2 H2 → H1 p = none → I2 p = none → H2 p = some (.lst vs) → DpAll K I2 vs ds → Q (.ref p) H2) → te σ H1 Q
def EvB (K : PySem.W.Frag) (tt : TT) (σ : L2.St) (I : Hp) (b : Bool) : Prop := ∀ I1 H1, Same I I1 → Im I1 H1 → ∀ Q : Bool → Hp → Prop, (∀ I2 H2, Ext I1 H1 I2 H2 → Q b H2) → tt σ H1 Q
def EvO (K : PySem.W.Frag) (to : TO) (σ : L2.St) (I : Hp) (o : Option Int) : Prop := ∀ I1 H1, Same I I1 → Im I1 H1 → ∀ Q : Option Int → Hp → Prop, (∀ I2 H2, Ext I1 H1 I2 H2 → Q o H2) → to σ H1 Q
def RD (K : PySem.W.Frag) (r : R2) (a b d : PyData) : Prop := ∀ I H x y, Im I H → Dp K I x a → Dp K I y b → ∀ Q : VK, (∀ v I' H', Ext I H I' H' → Dp K I' v d → Q v H') → r x y H Q
def CD (K : PySem.W.Frag) (r : List V → Hp → VK → Prop) (ds : List PyData) (d : PyData) : Prop := ∀ I H vs, Im I H → DpAll K I vs ds → ∀ Q : VK, (∀ v I' H', Ext I H I' H' → Dp K I' v d → Q v H') → r vs H Q
def SpD (K : PySem.W.Frag) (sp : Sp) (ds : List PyData) (d : PyData) : Prop := ∀ I H vs, Im I H → DpAll K I vs ds → ∀ (Q : VK) (E : XK), (∀ v I' H', Ext I H I' H' → Dp K I' v d → Q v H') → sp vs H Q E
section
variable {K : PySem.W.Frag} {σ : L2.St} {I I0 H : Hp} {ta tb te : TE} {t u : TT} {a b d : PyData} {ds xs ys : List PyData} {r : R2}
theorem EvD.mono (h : EvD K te σ I0 d) (s : Same I0 I) : EvD K te σ I d := fun I1 H1 s1 m Q q => h I1 H1 (s.trans s1) m Q q
theorem EvDs.mono {ta : TA} (h : EvDs K ta σ I0 ds) (s : Same I0 I) : EvDs K ta σ I ds := fun I1 H1 s1 m Q q => h I1 H1 (s.trans s1) m Q q
theorem EvD.is {e : PyData} (h : EvD K te σ I d) (q : d = e) : EvD K te σ I e := by rw [← q]; exact h
theorem evd_var {i : Nat} {v : V} (h : σ[i]? = some (some v)) (hd : Dp K I v d) : EvD K (tVar i) σ I d := fun I1 H1 s m Q q => ⟨v, h, q v I1 H1 (.refl m) (Dp.mono s _ _ hd)⟩
theorem evd_int {i : Int} : EvD K (tC (.int i)) σ I (.int i) := fun I1 H1 s m Q q => q _ I1 H1 (.refl m) (.int i)
theorem evd_str {x : Str} : EvD K (tC (.str x)) σ I (.str x) := fun I1 H1 s m Q q => q _ I1 H1 (.refl m) (.str x)
theorem evd_bl {x : Bool} : EvD K (tC (.bl x)) σ I (.bool x) := fun I1 H1 s m Q q => q _ I1 H1 (.refl m) (.bl x)
theorem evd_non : EvD K (tC .non) σ I .none := fun I1 H1 s m Q q => q _ I1 H1 (.refl m) .non
theorem evds_nil : EvDs K tNil σ I [] := fun I1 H1 s m Q q => q [] I1 H1 (.refl m) .nil
theorem evds_cons {tr : TA} (h : EvD K te σ I d) (hr : EvDs K tr σ I ds) : EvDs K (tCons te tr) σ I (d :: ds) := fun I1 H1 s m Q q =>
  h I1 H1 s m _ fun v I2 H2 e1 k1 => hr I2 H2 (s.trans e1.ii) e1.im _ fun vs I3 H3 e2 k2 => q _ I3 H3 (e1.trans e2) (.cons (Dp.mono e2.ii _ _ k1) k2)
theorem evd_tup {tr : TA} (h : EvDs K tr σ I ds) (hl : ds.length ≤ 100000) : EvD K (tTup tr) σ I (.tuple ds) := fun I1 H1 s m Q q =>
  h I1 H1 s m _ fun vs I2 H2 e k => ⟨by rw [DpAll.len k]; exact Nat.le_trans hl (by decide), fun p hp => q _ _ _ (e.trans (Ext.lay e.im hp)) (.tup (.inl (.inl upd_same)) (DpAll.mono (same_new (e.im.sub.free hp)) _ _ k))⟩
theorem evd_lst {tr : TA} (h : EvDs K tr σ I ds) (hl : ds.length ≤ 100000) : EvD K (tLst tr) σ I (.list ds) := fun I1 H1 s m Q q =>
  h I1 H1 s m _ fun vs I2 H2 e k => ⟨by rw [DpAll.len k]; exact Nat.le_trans hl (by decide), fun p hp => q _ _ _ (e.trans (Ext.lay e.im hp)) (.lst (.inl (.inl upd_same)) (DpAll.mono (same_new (e.im.sub.free hp)) _ _ k))⟩
theorem evc_lst {tr : TA} (h : EvDs K tr σ I ds) (hl : ds.length ≤ 100000) : EvC K (tLst tr) σ I ds := fun I1 H1 s m Q q =>
  h I1 H1 s m _ fun vs I2 H2 e k => ⟨by rw [DpAll.len k]; exact Nat.le_trans hl (by decide), fun p hp => q p vs I2 _ (e.trans (Ext.cell e.im hp)) (e.hh.free hp) (e.im.sub.free hp) upd_same k⟩
theorem evd_op (h1 : EvD K ta σ I a) (h2 : EvD K tb σ I b) (hr : RD K r a b d) : EvD K (tOp r ta tb) σ I d := fun I1 H1 s m Q q =>
  h1 I1 H1 s m _ fun v I2 H2 e1 k1 => h2 I2 H2 (s.trans e1.ii) e1.im _ fun w I3 H3 e2 k2 => hr I3 H3 v w e2.im (Dp.mono e2.ii _ _ k1) k2 Q fun z I4 H4 e3 k3 => q z I4 H4 ((e1.trans e2).trans e3) k3
theorem evd_cb {f : List V → Hp → VK → Prop} {tr : TA} (h : EvDs K tr σ I ds) (hr : CD K f ds d) : EvD K (tCB f tr) σ I d := fun I1 H1 s m Q q =>
  h I1 H1 s m _ fun vs I2 H2 e k => hr I2 H2 vs e.im k Q fun z I4 H4 e3 k3 => q z I4 H4 (e.trans e3) k3
theorem evd_call {sp : Sp} {E : XK} {tr : TA} (h : EvDs K tr σ I ds) (hr : SpD K sp ds d) : EvD K (tCall sp [] E tr) σ I d := fun I1 H1 s m Q q =>
  h I1 H1 s m _ fun vs I2 H2 e k => by
    rw [List.append_nil]
    exact hr I2 H2 vs e.im k Q E fun z I4 H4 e3 k3 => q z I4 H4 (e.trans e3) k3
theorem evo_none : EvO K tNoPart σ I none := fun I1 H1 s m Q q => q I1 H1 (.refl m)
theorem evo_some {i : Int} (h : EvD K te σ I (.int i)) : EvO K (tPart te) σ I (some i) := fun I1 H1 s m Q q =>
  h I1 H1 s m _ fun v I2 H2 e k => by
    cases k
    exact ⟨i, rfl, q I2 H2 e⟩
/-- the part of a list between two places -/
def cutD (xs : List PyData) (lo hi : Option Int) : List PyData := (xs.drop (HT.sIx xs.length 0 lo)).take (HT.sIx xs.length xs.length hi - HT.sIx xs.length 0 lo)
theorem DpAll.drop {vs : List V} (n : Nat) (h : DpAll K H vs ds) : DpAll K H (vs.drop n) (ds.drop n) := by
  induction n generalizing vs ds with
  | zero => exact h
  | succ n ih =>
    cases h with
    | nil => exact .nil
    | cons h1 h2 => exact ih h2
theorem DpAll.take {vs : List V} (n : Nat) (h : DpAll K H vs ds) : DpAll K H (vs.take n) (ds.take n) := by
  induction n generalizing vs ds with
  | zero => exact .nil
  | succ n ih =>
    cases h with
    | nil => exact .nil
    | cons h1 h2 => exact .cons h1 (ih h2)
theorem DpAll.app {vs ws : List V} (h : DpAll K H vs xs) (g : DpAll K H ws ys) : DpAll K H (vs ++ ws) (xs ++ ys) := by
  induction vs generalizing xs with
  | nil =>
    cases h
    exact g
  | cons v vs ih =>
    cases h with
    | cons h1 h2 => exact .cons h1 (ih h2)
theorem DpAll.cut {vs : List V} (h : DpAll K H vs ds) (lo hi : Option Int) : DpAll K H (cutV vs lo hi) (cutD ds lo hi) := by
  unfold cutV cutD
  rw [DpAll.len h]
  exact DpAll.take _ (DpAll.drop _ h)
theorem evd_slT {tl th : TO} {lo hi : Option Int} (h : EvD K te σ I (.tuple ds)) (h1 : EvO K tl σ I lo) (h2 : EvO K th σ I hi) : EvD K (tSl (rSlA K) te tl th) σ I (.tuple (cutD ds lo hi)) := fun I1 H1 s m Q q =>
  h I1 H1 s m _ fun v I2 H2 e1 k1 => h1 I2 H2 (s.trans e1.ii) e1.im _ fun I3 H3 e2 => h2 I3 H3 ((s.trans e1.ii).trans e2.ii) e2.im _ fun I4 H4 e3 => by
    have e := (e1.trans e2).trans e3
    have k := Dp.mono (e2.trans e3).ii _ _ k1
    cases k with
    | tup hs ha =>
      rename_i a xs
      refine ⟨a, xs, rfl, ex_sqT e.im.sub hs, fun hw => ?_, fun _ p hp => ?_⟩
      · have ec : cutD ds lo hi = ds := by
          unfold cutD
          rw [← DpAll.len ha, hw.1, hw.2]
          rw [List.drop_zero, DpAll.len ha]
          exact List.take_of_length_le (by omega)
        rw [ec] at q
        exact q _ I4 H4 e (.tup hs ha)
      · exact q _ _ _ (e.trans (Ext.lay e.im hp)) (.tup (.inl (.inl upd_same)) (DpAll.mono (same_new (e.im.sub.free hp)) _ _ (DpAll.cut ha lo hi)))
/-! operators -/
theorem rd_I0 {g : Int → Int → V} {i j : Int} {d : PyData} (hg : ∀ H, Dp K H (g i j) d) : RD K (rI0 g) (.int i) (.int j) d := fun I H x y m hx hy Q q => by
  cases hx
  cases hy
  exact ⟨i, j, rfl, rfl, q _ I H (.refl m) (hg _)⟩
theorem rd_cat (hl : xs.length + ys.length ≤ 100000) : RD K (rCatA K) (.tuple xs) (.tuple ys) (.tuple (xs ++ ys)) := fun I H x y m hx hy Q q => by
  cases hx with
  | tup h1 k1 =>
    cases hy with
    | tup h2 k2 =>
      rename_i a vs b ws
      refine ⟨a, b, vs, ws, rfl, rfl, ex_sqT m.sub h1, ex_sqT m.sub h2, ?_, fun e => ?_, fun _ e => ?_, fun _ _ p hp => ?_⟩
      · rw [DpAll.len k1, DpAll.len k2]
        exact Nat.le_trans hl (by decide)
      · subst e
        cases k1
        exact q _ I H (.refl m) (.tup h2 k2)
      · subst e
        cases k2
        rw [List.append_nil] at q
        exact q _ I H (.refl m) (.tup h1 k1)
      · exact q _ _ _ (Ext.lay m hp) (.tup (.inl (.inl upd_same)) (DpAll.mono (same_new (m.sub.free hp)) _ _ (DpAll.app k1 k2)))
def repD (k : Nat) (xs : List PyData) : List PyData := (List.replicate k xs).flatten
theorem DpAll.rep {vs : List V} (h : DpAll K H vs ds) : ∀ k : Nat, DpAll K H (List.replicate k vs).flatten (repD k ds)
  | 0 => .nil
  | k + 1 => by
    unfold repD
    rw [List.replicate_succ, List.replicate_succ, List.flatten_cons, List.flatten_cons]
    exact DpAll.app h (DpAll.rep h k)
theorem rd_rep {k : Int} (h2 : 2 ≤ k) (hk : k ≤ 1000) (hn : xs ≠ []) (hl : xs.length ≤ 1000) : RD K (rRepT K) (.tuple xs) (.int k) (.tuple (repD k.toNat xs)) := fun I H x y m hx hy Q q => by
  cases hx with
  | tup h1 k1 =>
    cases hy
    rename_i a vs
    refine ⟨a, k, vs, rfl, rfl, ex_sqT m.sub h1, fun e => ?_, h2, hk, by rw [DpAll.len k1]; exact hl, fun p hp => ?_⟩
    · subst e
      cases k1
      exact hn rfl
    · exact q _ _ _ (Ext.lay m hp) (.tup (.inl (.inl upd_same)) (DpAll.mono (same_new (m.sub.free hp)) _ _ (DpAll.rep k1 k.toNat)))
theorem rd_rep' {k : Int} (h2 : 2 ≤ k) (hk : k ≤ 1000) (hn : xs ≠ []) (hl : xs.length ≤ 1000) (hd : d = .tuple (repD k.toNat xs)) : RD K (rRepT K) (.tuple xs) (.int k) d := by
  subst hd
  exact rd_rep h2 hk hn hl
theorem rd_ixT {i : Nat} (e : xs[i]? = some d) : RD K (rIxT K) (.tuple xs) (.int (i : Int)) d := fun I H x y m hx hy Q q => by
  cases hx with
  | tup h1 k1 =>
    cases hy
    rename_i a vs
    obtain ⟨v, ev, kv⟩ := DpAll.got k1 e
    exact ⟨a, vs, (i : Int), v, rfl, rfl, ex_sqT m.sub h1, atI_nat ev, q _ I H (.refl m) kv⟩
theorem rd_isB {x y : Bool} : RD K rIsB (.bool x) (.bool y) (.bool (decide (x = y))) := fun I H v w m hx hy Q q => by
  cases hx
  cases hy
  exact ⟨x, y, rfl, rfl, q _ I H (.refl m) (.bl _)⟩
theorem rd_eqD (h1 : SeqAt.shaped a = true) (h2 : SeqAt.shaped b = true) : RD K (rEqD K) a b (.bool (PyData.eqv a b)) := fun I H v w m hx hy Q q =>
  ⟨a, b, Dp.mono m.sub _ _ hx, Dp.mono m.sub _ _ hy, h1, h2, q _ I H (.refl m) (.bl _)⟩
theorem rd_neD (h1 : SeqAt.shaped a = true) (h2 : SeqAt.shaped b = true) : RD K (rNeD K) a b (.bool (!PyData.eqv a b)) := fun I H v w m hx hy Q q =>
  ⟨a, b, Dp.mono m.sub _ _ hx, Dp.mono m.sub _ _ hy, h1, h2, q _ I H (.refl m) (.bl _)⟩
/-! built-ins -/
theorem cd_len : CD K (fun xs H Q => ∃ p ys, xs = [.ref p] ∧ (SqL K H p ys ∨ SqT K H p ys) ∧ Q (.int ys.length) H) [.tuple xs] (.int (xs.length : Int)) := fun I H vs m hv Q q => by
  cases hv with
  | cons h1 h2 =>
    cases h2
    cases h1 with
    | tup hs ha => exact ⟨_, _, rfl, .inr (ex_sqT m.sub hs), by rw [DpAll.len ha]; exact q _ I H (.refl m) (.int _)⟩
theorem cd_lenL : CD K (fun xs H Q => ∃ p ys, xs = [.ref p] ∧ (SqL K H p ys ∨ SqT K H p ys) ∧ Q (.int ys.length) H) [.list xs] (.int (xs.length : Int)) := fun I H vs m hv Q q => by
  cases hv with
  | cons h1 h2 =>
    cases h2
    cases h1 with
    | lst hs ha => exact ⟨_, _, rfl, .inl (m.sub.seq hs), by rw [DpAll.len ha]; exact q _ I H (.refl m) (.int _)⟩
/-- list(a tuple) that stays -/
theorem cd_listT : CD K (fun xs H Q => ∃ p ys, xs = [.ref p] ∧ (SqL K H p ys ∨ SqT K H p ys) ∧ ∀ l, H l = none → Q (.ref l) (upd H l (.lst ys))) [.tuple xs] (.list xs) := fun I H vs m hv Q q => by
  cases hv with
  | cons h1 h2 =>
    cases h2
    cases h1 with
    | tup hs ha => exact ⟨_, _, rfl, .inr (ex_sqT m.sub hs), fun p hp => q _ _ _ (Ext.lay m hp) (.lst (.inl (.inl upd_same)) (DpAll.mono (same_new (m.sub.free hp)) _ _ ha))⟩
/-! bools -/
theorem evb_test {x : Bool} (h : EvD K te σ I (.bool x)) : EvB K (tTest te) σ I x := fun I1 H1 s m Q q => h I1 H1 s m _ fun v I2 H2 e k => by
  cases k
  exact ⟨x, rfl, q I2 H2 e⟩
theorem evb_B {x : Bool} (h : EvD K te σ I (.bool x)) : EvB K (tB te) σ I x := fun I1 H1 s m Q q => h I1 H1 s m _ fun v I2 H2 e k => by
  cases k
  exact ⟨x, rfl, q I2 H2 e⟩
theorem evb_not {x : Bool} (h : EvB K t σ I x) : EvB K (tNot t) σ I (!x) := fun I1 H1 s m Q q => h I1 H1 s m _ fun I2 H2 e => q I2 H2 e
theorem evb_and {x y : Bool} (h : EvB K t σ I x) (g : x = true → EvB K u σ I y) : EvB K (tAnd t u) σ I (x && y) := fun I1 H1 s m Q q => h I1 H1 s m _ fun I2 H2 e => by
  cases x with
  | true => exact g rfl I2 H2 (s.trans e.ii) e.im _ fun I3 H3 e2 => q I3 H3 (e.trans e2)
  | false => exact q I2 H2 e
theorem evb_or {x y : Bool} (h : EvB K t σ I x) (g : x = false → EvB K u σ I y) : EvB K (tOr t u) σ I (x || y) := fun I1 H1 s m Q q => h I1 H1 s m _ fun I2 H2 e => by
  cases x with
  | false => exact g rfl I2 H2 (s.trans e.ii) e.im _ fun I3 H3 e2 => q I3 H3 (e.trans e2)
  | true => exact q I2 H2 e
theorem evd_not {x : Bool} (h : EvD K te σ I (.bool x)) : EvD K (tNotV te) σ I (.bool (!x)) := fun I1 H1 s m Q q => h I1 H1 s m _ fun v I2 H2 e k => by
  cases k
  exact ⟨x, rfl, q _ I2 H2 e (.bl _)⟩
theorem evd_and {x y : Bool} (h : EvD K ta σ I (.bool x)) (g : x = true → EvD K tb σ I (.bool y)) : EvD K (tAndV ta tb) σ I (.bool (x && y)) := fun I1 H1 s m Q q => h I1 H1 s m _ fun v I2 H2 e k => by
  cases k
  cases x with
  | true => exact ⟨_, rfl, g rfl I2 H2 (s.trans e.ii) e.im _ fun w I3 H3 e2 k2 => q w I3 H3 (e.trans e2) k2⟩
  | false => exact ⟨_, rfl, q _ I2 H2 e (.bl _)⟩
theorem evd_or {x y : Bool} (h : EvD K ta σ I (.bool x)) (g : x = false → EvD K tb σ I (.bool y)) : EvD K (tOrV ta tb) σ I (.bool (x || y)) := fun I1 H1 s m Q q => h I1 H1 s m _ fun v I2 H2 e k => by
  cases k
  cases x with
  | false => exact ⟨_, rfl, g rfl I2 H2 (s.trans e.ii) e.im _ fun w I3 H3 e2 k2 => q w I3 H3 (e.trans e2) k2⟩
  | true => exact ⟨_, rfl, q _ I2 H2 e (.bl _)⟩
theorem evd_if {x : Bool} (h : EvB K t σ I x) (g1 : x = true → EvD K ta σ I d) (g2 : x = false → EvD K tb σ I d) : EvD K (tIf t ta tb) σ I d := fun I1 H1 s m Q q => h I1 H1 s m _ fun I2 H2 e => by
  cases x with
  | true => exact g1 rfl I2 H2 (s.trans e.ii) e.im _ fun w I3 H3 e2 k2 => q w I3 H3 (e.trans e2) k2
  | false => exact g2 rfl I2 H2 (s.trans e.ii) e.im _ fun w I3 H3 e2 k2 => q w I3 H3 (e.trans e2) k2
theorem bls_of : ∀ {bs : List Bool} {vs : List V}, DpAll K H vs (bs.map PyData.bool) → vs = bs.map V.bl
  | [], _, h => by cases h; rfl
  | b :: bs, _, h => by
    cases h with
    | cons h1 h2 =>
      cases h1
      rw [bls_of h2]
      rfl
/-- all(..), any(..) of a list that was made for it -/
theorem evd_all {bs : List Bool} (h : EvC K te σ I (bs.map PyData.bool)) : EvD K (tCB (rAll K) (tCons te tNil)) σ I (.bool (bs.all id)) := fun I1 H1 s m Q q =>
  h I1 H1 s m _ fun p vs I2 H2 e _ _ hp k => ⟨p, bs, rfl, by rw [← bls_of k]; exact SqL.of hp, q _ I2 H2 e (.bl _)⟩
theorem evd_any {bs : List Bool} (h : EvC K te σ I (bs.map PyData.bool)) : EvD K (tCB (rAny K) (tCons te tNil)) σ I (.bool (bs.any id)) := fun I1 H1 s m Q q =>
  h I1 H1 s m _ fun p vs I2 H2 e _ _ hp k => ⟨p, bs, rfl, by rw [← bls_of k]; exact SqL.of hp, q _ I2 H2 e (.bl _)⟩
theorem Ext.put {I' H H' : Hp} {p : Addr} {xs : List V} (e : Ext I H I' H') (hp : H p = none) (ip : I' p = none) : Ext I H I' (upd H' p (.lst xs)) :=
  ⟨e.im.put ip, e.ii, fun b o h => by rw [upd_ne (ne_of_none h hp)]; exact e.hh _ _ h, e.old⟩
/-- a cell that is not changed any more -/
theorem Im.freeze {p : Addr} {vs : List V} (m : Im I H) (hp : H p = some (.lst vs)) : Im (upd I p (.lst vs)) H := by
  refine ⟨fun b o e => ?_, fun b xs e => ?_⟩
  · by_cases h : b = p
    · subst h
      rw [upd_same] at e
      cases e
      exact hp
    · rw [upd_ne h] at e
      exact m.sub _ _ e
  · rw [upd_ne (ne_of e hp (by intro z; cases z))]
    exact m.tup _ _ e
/-- the turns of a comprehension -/
theorem lc_turns {i : Nat} {own : List Nat} {D : Addr} {vs : List V} {f : PyData → PyData} {I2 H2 : Hp}
    (s : Same I I2) (im : Im I2 H2) (hD : H2 D = none) (hd : DpAll K I2 vs ds) (hn : ds.length ≤ 100000)
    (hσ : ∀ v, wipe ((wipe σ own).set i (some v)) own = wipe σ own)
    (hel : ∀ (j : Nat) (v : V) (d : PyData) (I' : Hp), ds[j]? = some d → Same I I' → Dp K I' v d → EvD K te ((wipe σ own).set i (some v)) I' (f d)) :
    ∃ Pv : Nat → Hp → Prop, Pv 0 (upd H2 D (.lst [])) ∧ (∀ j H, Pv j H → ∃ I', Ext I2 H2 I' H ∧ Same I2 I') ∧
      (∀ j x H, vs[j]? = some x → Pv j H → gName i x (wipe σ own) H fun σ2 H2 => wipe σ2 own = wipe σ own ∧ tYes σ2 H2 fun b H3 =>
        if b = true then te σ2 H3 fun y H4 => ∃ acc, H4 D = some (.lst acc) ∧ acc.length < sizeLine ∧ Pv (j + 1) (upd H4 D (.lst (acc ++ [y]))) else Pv (j + 1) H3) ∧
      ∀ H, Pv vs.length H → ∃ ws I', Ext I2 H2 I' H ∧ I' D = none ∧ H D = some (.lst ws) ∧ DpAll K I' ws (ds.map f) := by
  have iD : I2 D = none := im.sub.free hD
  refine ⟨fun j H => ∃ I' acc, Ext I2 H2 I' H ∧ I' D = none ∧ H D = some (.lst acc) ∧ DpAll K I' acc ((ds.take j).map f), ⟨I2, [], Ext.cell im hD, iD, upd_same, .nil⟩, fun j H ⟨I', _, e, _⟩ => ⟨I', e, e.ii⟩, ?_, ?_⟩
  · rintro j x H ej ⟨I', acc, e, iD', hD', k⟩
    obtain ⟨d, ed, kd⟩ := DpAll.get hd ej
    have hj : j < ds.length := (List.getElem?_eq_some_iff.mp ed).1
    refine ⟨hσ x, ?_⟩
    show te ((wipe σ own).set i (some x)) H _
    refine hel j x d I' ed (s.trans e.ii) (Dp.mono e.ii _ _ kd) I' H (Same.refl _) e.im _ fun y I4 H4 e4 k4 => ?_
    have hl : acc.length ≤ 100000 := by
      rw [DpAll.len k, List.length_map, List.length_take]
      omega
    refine ⟨acc, e4.hh _ _ hD', Nat.lt_of_le_of_lt hl (by decide), I4, acc ++ [y], (e.trans e4).put hD (by rw [e4.old _ _ hD']; exact iD'), by rw [e4.old _ _ hD']; exact iD', upd_same, ?_⟩
    rw [List.take_add_one, ed, List.map_append]
    exact DpAll.app (DpAll.mono e4.ii _ _ k) (.cons k4 .nil)
  · rintro H ⟨I', acc, e, iD', hD', k⟩
    rw [DpAll.len hd, List.take_length] at k
    exact ⟨acc, I', e, iD', hD', k⟩
theorem evc_lc {i : Nat} {own : List Nat} {wt : TE} {f : PyData → PyData} (hw : EvD K wt σ I (.list ds)) (hn : ds.length ≤ 100000)
    (hσ : ∀ v, wipe ((wipe σ own).set i (some v)) own = wipe σ own)
    (hel : ∀ (j : Nat) (v : V) (d : PyData) (I' : Hp), ds[j]? = some d → Same I I' → Dp K I' v d → EvD K te ((wipe σ own).set i (some v)) I' (f d)) : EvC K (tLc (iList K wt) (gName i) tYes te own) σ I (ds.map f) := fun I1 H1 s m Q q =>
  hw I1 H1 s m _ fun v I2 H2 e2 k2 => by
    cases k2 with
    | lst hs ha =>
      rename_i a vs
      refine ⟨a, rfl, ⟨vs, e2.im.sub.seq hs⟩, fun D hD => ?_⟩
      obtain ⟨Pv, p0, pI, pt, pd⟩ := lc_turns (s.trans e2.ii) e2.im hD ha hn hσ hel
      refine lc_list (xs := vs) Pv p0 (fun j H _ h => ?_) pt fun H h => ?_
      · obtain ⟨I', e, s'⟩ := pI j H h
        exact e.im.sub.seq (s'.seq hs)
      · obtain ⟨ws, I', e, iD, hD', k⟩ := pd H h
        exact q D ws I' H (e2.trans e) (e2.hh.free hD) iD hD' k
theorem evc_lcT {i : Nat} {own : List Nat} {wt : TE} {f : PyData → PyData} (hw : EvD K wt σ I (.tuple ds)) (hn : ds.length ≤ 100000)
    (hσ : ∀ v, wipe ((wipe σ own).set i (some v)) own = wipe σ own)
    (hel : ∀ (j : Nat) (v : V) (d : PyData) (I' : Hp), ds[j]? = some d → Same I I' → Dp K I' v d → EvD K te ((wipe σ own).set i (some v)) I' (f d)) : EvC K (tLc (iTup K wt) (gName i) tYes te own) σ I (ds.map f) := fun I1 H1 s m Q q =>
  hw I1 H1 s m _ fun v I2 H2 e2 k2 => by
    cases k2 with
    | tup hs ha =>
      rename_i a vs
      refine ⟨a, rfl, ⟨vs, ex_sqT e2.im.sub hs⟩, fun D hD => ?_⟩
      obtain ⟨Pv, p0, pI, pt, pd⟩ := lc_turns (s.trans e2.ii) e2.im hD ha hn hσ hel
      refine lc_tup (xs := vs) Pv p0 (fun j H _ h => ?_) pt fun H h => ?_
      · obtain ⟨I', e, s'⟩ := pI j H h
        exact ex_sqT e.im.sub (ex_sqT s' hs)
      · obtain ⟨ws, I', e, iD, hD', k⟩ := pd H h
        exact q D ws I' H (e2.trans e) (e2.hh.free hD) iD hD' k

/-! ### statements, with I and H at hand -/
theorem s_asg {i : Nat} {D : Ends} (h : EvD K te σ I d) (m : Im I H) (k : ∀ v I' H', Ext I H I' H' → Dp K I' v d → D.nx (σ.set i (some v)) H') : tAsg te (gName i) D σ H := h I H (Same.refl _) m _ fun v I2 H2 e kd => k v I2 H2 e kd
theorem s_cell {i : Nat} {D : Ends} (h : EvC K te σ I ds) (m : Im I H) (k : ∀ p vs I' H', Ext I H I' H' → H p = none → I' p = none → H' p = some (.lst vs) → DpAll K I' vs ds → D.nx (σ.set i (some (.ref p))) H') : tAsg te (gName i) D σ H := h I H (Same.refl _) m _ fun p vs I2 H2 e h1 h2 h3 h4 => k p vs I2 H2 e h1 h2 h3 h4
theorem s_ret {D : Ends} (h : EvD K te σ I d) (m : Im I H) (k : ∀ v I' H', Ext I H I' H' → Dp K I' v d → D.rt v H') : tRet te D σ H := h I H (Same.refl _) m _ k
theorem s_if {D : Ends} {x y : TS} {c : Bool} (h : EvB K t σ I c) (m : Im I H) (k1 : c = true → ∀ I' H', Ext I H I' H' → x D σ H') (k2 : c = false → ∀ I' H', Ext I H I' H' → y D σ H') : tIfS t x y D σ H := h I H (Same.refl _) m _ fun I2 H2 e => by
  cases c with
  | true => exact k1 rfl I2 H2 e
  | false => exact k2 rfl I2 H2 e
/-- xs.append(e) of a cell -/
theorem s_append {i : Nat} {D : Ends} {p : Addr} {vs : List V} (hi : σ[i]? = some (some (.ref p))) (hp : H p = some (.lst vs)) (ip : I p = none) (hn : vs.length < 100000) (h : EvD K te σ I d) (m : Im I H)
    (k : ∀ v I' H', Ext I H I' H' → Dp K I' v d → Im I' (upd H' p (.lst (vs ++ [v]))) → I' p = none → D.nx σ (upd H' p (.lst (vs ++ [v])))) : tDrop (tBM K "list" rAppend (tVar i) (tCons te tNil)) D σ H :=
  ⟨.ref p, hi, .inl ⟨rfl, _, SqL.of hp⟩, h I H (Same.refl _) m _ fun v I2 H2 e kd => ⟨p, vs, v, rfl, rfl, e.hh _ _ hp, Nat.lt_trans hn (by decide), k v I2 H2 e kd (e.im.put (by rw [e.old _ _ hp]; exact ip)) (by rw [e.old _ _ hp]; exact ip)⟩⟩
/-- xs.extend([..]) of a cell by a new list -/
theorem s_extend {i : Nat} {D : Ends} {p : Addr} {vs : List V} (hi : σ[i]? = some (some (.ref p))) (hp : H p = some (.lst vs)) (ip : I p = none) (hn : vs.length + ds.length ≤ 100000) (h : EvC K te σ I ds) (m : Im I H)
    (k : ∀ ws I' H', Ext I H I' H' → DpAll K I' ws ds → Im I' (upd H' p (.lst (vs ++ ws))) → I' p = none → D.nx σ (upd H' p (.lst (vs ++ ws)))) : tDrop (tBM K "list" rExtend (tVar i) (tCons te tNil)) D σ H :=
  ⟨.ref p, hi, .inl ⟨rfl, _, SqL.of hp⟩, h I H (Same.refl _) m _ fun q ws I2 H2 e hq iq hq2 kd => ⟨p, q, vs, ws, rfl, rfl, e.hh _ _ hp, hq2, by rw [DpAll.len kd]; exact Nat.le_trans hn (by decide), k ws I2 H2 e kd (e.im.put (by rw [e.old _ _ hp]; exact ip)) (by rw [e.old _ _ hp]; exact ip)⟩⟩
end
end Sb

namespace Sb
open PySem PySem.Spec PyProof.Rows L2
section
variable {K : PySem.W.Frag} {σ : L2.St} {I I0 H : Hp} {ta tb te : TE} {t u : TT} {a b d : PyData} {ds xs ys : List PyData} {r : R2}
/-- what an expression evaluates to: tuples alone, whatever else stands -/
def EvP (te : TE) (σ : L2.St) (H : Hp) (d : PyData) : Prop := ∀ H1, Same H H1 → ∀ Q : VK, (∀ v H2, Same H1 H2 → Tp H2 v d → Q v H2) → te σ H1 Q
def EvPs (ta : TA) (σ : L2.St) (H : Hp) (ds : List PyData) : Prop := ∀ H1, Same H H1 → ∀ Q : List V → Hp → Prop, (∀ vs H2, Same H1 H2 → TpAll H2 vs ds → Q vs H2) → ta σ H1 Q
theorem evp_int {i : Int} : EvP (tC (.int i)) σ H (.int i) := fun H1 s Q q => q _ H1 (.refl _) (.int i)
theorem evp_str {x : Str} : EvP (tC (.str x)) σ H (.str x) := fun H1 s Q q => q _ H1 (.refl _) (.str x)
theorem evp_var {i : Nat} {v : V} (h : σ[i]? = some (some v)) (hd : Tp H v d) : EvP (tVar i) σ H d := fun H1 s Q q => ⟨v, h, q v H1 (.refl _) (Tp.mono (KT.of s) _ _ hd)⟩
theorem evps_nil : EvPs tNil σ H [] := fun H1 s Q q => q [] H1 (.refl _) .nil
theorem evps_cons {tr : TA} (h : EvP te σ H d) (hr : EvPs tr σ H ds) : EvPs (tCons te tr) σ H (d :: ds) := fun H1 s Q q =>
  h H1 s _ fun v H2 s2 k1 => hr H2 (s.trans s2) _ fun vs H3 s3 k2 => q _ H3 (s2.trans s3) (.cons (Tp.mono (KT.of s3) _ _ k1) k2)
theorem evp_tup {tr : TA} (h : EvPs tr σ H ds) (hl : ds.length ≤ 100000) : EvP (tTup tr) σ H (.tuple ds) := fun H1 s Q q =>
  h H1 s _ fun vs H2 s2 k => ⟨by rw [TpAll.len k]; exact Nat.le_trans hl (by decide), fun p hp => q _ _ (s2.trans (same_new hp)) (.tup upd_same (TpAll.mono (KT.of (same_new hp)) _ _ k))⟩
theorem evp_cat (h1 : EvP ta σ H (.tuple xs)) (h2 : EvP tb σ H (.tuple ys)) (hl : xs.length + ys.length ≤ 100000) : EvP (tOp (rCatA K) ta tb) σ H (.tuple (xs ++ ys)) := fun H1 s Q q =>
  h1 H1 s _ fun v H2 s2 k1 => h2 H2 (s.trans s2) _ fun w H3 s3 k2 => by
    have k1' := Tp.mono (KT.of s3) _ _ k1
    cases k1' with
    | tup e1 a1 =>
      cases k2 with
      | tup e2 a2 =>
        rename_i a vs b ws
        refine ⟨a, b, vs, ws, rfl, rfl, SqT.of e1, SqT.of e2, ?_, fun e => ?_, fun _ e => ?_, fun _ _ p hp => ?_⟩
        · rw [TpAll.len a1, TpAll.len a2]
          exact Nat.le_trans hl (by decide)
        · subst e
          cases a1
          exact q _ H3 (s2.trans s3) (.tup e2 a2)
        · subst e
          cases a2
          rw [List.append_nil] at q
          exact q _ H3 (s2.trans s3) (.tup e1 a1)
        · exact q _ _ ((s2.trans s3).trans (same_new hp)) (.tup upd_same (TpAll.mono (KT.of (same_new hp)) _ _ (TpAll.app a1 a2)))
theorem s_par {i j : Nat} {ta : TA} {D : Ends} {d1 d2 : PyData} (h : EvDs K ta σ I [d1, d2]) (m : Im I H) (k : ∀ v w I' H', Ext I H I' H' → Dp K I' v d1 → Dp K I' w d2 → D.nx ((σ.set i (some v)).set j (some w)) H') : tPar i j ta D σ H := h I H (Same.refl _) m _ fun vs I2 H2 e kd => by
  cases kd with
  | cons h1 h2 =>
    cases h2 with
    | cons h3 h4 =>
      cases h4
      exact ⟨_, _, rfl, k _ _ I2 H2 e h1 h3⟩
theorem s_asg2 {i j n : Nat} {D : Ends} {d1 d2 : PyData} (hn : 2 = n) (h : EvD K te σ I (.tuple [d1, d2])) (m : Im I H) (k : ∀ v w I' H', Ext I H I' H' → Dp K I' v d1 → Dp K I' w d2 → D.nx ((σ.set i (some v)).set j (some w)) H') : tAsg te (gTup K n (gCons (gName i) (gCons (gName j) gNil))) D σ H := h I H (Same.refl _) m _ fun v I2 H2 e kd => by
  cases kd with
  | tup hs ha =>
    cases ha with
    | cons h1 h2 =>
      cases h2 with
      | cons h3 h4 =>
        cases h4
        exact ⟨_, _, rfl, ex_sqT e.im.sub hs, hn, _, _, rfl, _, _, rfl, rfl, k _ _ I2 H2 e h1 h3⟩
theorem s_asg3 {i j l n : Nat} {D : Ends} {d1 d2 d3 : PyData} (hn : 3 = n) (h : EvD K te σ I (.tuple [d1, d2, d3])) (m : Im I H) (k : ∀ v w x I' H', Ext I H I' H' → Dp K I' v d1 → Dp K I' w d2 → Dp K I' x d3 → D.nx (((σ.set i (some v)).set j (some w)).set l (some x)) H') : tAsg te (gTup K n (gCons (gName i) (gCons (gName j) (gCons (gName l) gNil)))) D σ H := h I H (Same.refl _) m _ fun v I2 H2 e kd => by
  cases kd with
  | tup hs ha =>
    cases ha with
    | cons h1 h2 =>
      cases h2 with
      | cons h3 h4 =>
        cases h4 with
        | cons h5 h6 =>
          cases h6
          exact ⟨_, _, rfl, ex_sqT e.im.sub hs, hn, _, _, rfl, _, _, rfl, _, _, rfl, rfl, k _ _ _ I2 H2 e h1 h3 h5⟩
theorem evc_lcB {i : Nat} {own : List Nat} {wt : TE} {g : PyData → Bool} (hw : EvD K wt σ I (.list ds)) (hn : ds.length ≤ 100000)
    (hσ : ∀ v, wipe ((wipe σ own).set i (some v)) own = wipe σ own)
    (hel : ∀ (j : Nat) (v : V) (d : PyData) (I' : Hp), ds[j]? = some d → Same I I' → Dp K I' v d → EvD K te ((wipe σ own).set i (some v)) I' (.bool (g d))) : EvC K (tLc (iList K wt) (gName i) tYes te own) σ I ((ds.map g).map PyData.bool) := by
  rw [List.map_map]
  exact evc_lc (f := fun d => .bool (g d)) hw hn hσ hel
/-- the tuples of a heap -/
def imT (H : Hp) : Hp := fun b => match H b with
  | some (.tup xs) => some (.tup xs)
  | _ => none
theorem im_T (H : Hp) : Im (imT H) H := by
  refine ⟨fun b o e => ?_, fun b xs e => ?_⟩
  · unfold imT at e
    split at e
    · rename_i xs q
      rw [q]
      exact e
    · cases e
  · unfold imT
    rw [e]
theorem imT_none {p : Addr} (h : H p = none) : imT H p = none := by
  unfold imT
  rw [h]
/-- the state at its beginning -/
theorem en_start {A st : Addr} {ns : List Int} (hS : SqL K H A (ns.map V.int)) (hl : ns.length ≤ 63) (hst : H st = none) : En K A st ns 0 (upd H st (.lst [])) := by
  refine ⟨fun H' g => ?_, hl, ⟨[], upd_same, Nat.le_refl _⟩, by omega⟩
  have up : ∀ b o, H b = some o → H' b = some o := fun b o e => g b o (ne_of_none e hst) (by rw [upd_ne (ne_of_none e hst)]; exact e)
  rcases hS with (h | ⟨o, h⟩) | h
  · exact .inl (.inl (up _ _ h))
  · exact .inl (.inr ⟨o, up _ _ h⟩)
  · exact .inr h
theorem En.ext {A st : Addr} {ns : List Int} {n : Nat} {I I' H' : Hp} (E : En K A st ns n H) (e : Ext I H I' H') : En K A st ns n H' :=
  E.next (.of e.hh) (by obtain ⟨zs, ez, hz⟩ := E.zs; exact ⟨zs, e.hh _ _ ez, hz⟩) E.small
theorem En.put {A st p : Addr} {ns : List Int} {n : Nat} {H0 : Hp} {ys : List V} (E0 : En K A st ns 0 H0) (g : Gx st H0 H) (E : En K A st ns n H) (hp : H0 p = none) : En K A st ns n (upd H p (.lst ys)) := by
  obtain ⟨zs, ez, hz⟩ := E.zs
  exact E0.next (g.mut hp) ⟨zs, by rw [upd_ne (E0.st_ne hp).symm]; exact ez, hz⟩ E.small
end
/-- Same, by the chain of what is known: each heap has one that it came of -/
local macro_rules | `(tactic| walk_at "sb_same") => `(tactic| first
  | exact Same.refl _
  | assumption
  | (refine Same.trans ?_ (by assumption); walk_at "sb_same"))
example (A B C D E : Hp) (h1 : Same A B) (h2 : Same B C) (h3 : Same C D) (h4 : Same D E) : Same A E := by walk_at "sb_same"
section
variable {X : Cx}
/-! the rules with K said: within a comprehension -/
theorem op_catA' (K : PySem.W.Frag) (h : X.K = K) : OpR X (binaryOp .Add) (rCatA K) := by subst h; exact op_catA
theorem ix_tup' (K : PySem.W.Frag) (h : X.K = K) : IxR X (rIxT K) := by subst h; exact ix_tup
theorem ix_list' (K : PySem.W.Frag) (h : X.K = K) : IxR X (rIxL K) := by subst h; exact ix_list
theorem sl_tupA' (K : PySem.W.Frag) (h : X.K = K) : SlR X (rSlA K) := by subst h; exact sl_tupA
theorem call_len_seq' (K : PySem.W.Frag) (h : X.K = K) : CallR X (.builtin "len") (fun xs H Q => ∃ p ys, xs = [.ref p] ∧ (SqL K H p ys ∨ SqT K H p ys) ∧ Q (.int ys.length) H) := by subst h; exact call_len_seq
theorem call_tuple_of' (K : PySem.W.Frag) (h : X.K = K) : CallR X (.type "tuple") (fun xs H Q => ∃ p ys, xs = [.ref p] ∧ ((SqL K H p ys ∧ ∀ l, H l = none → Q (.ref l) (upd H l (.tup ys))) ∨ (SqT K H p ys ∧ Q (.ref p) H))) := by subst h; exact call_tuple_of
theorem call_list_of' (K : PySem.W.Frag) (h : X.K = K) : CallR X (.type "list") (fun xs H Q => ∃ p ys, xs = [.ref p] ∧ (SqL K H p ys ∨ SqT K H p ys) ∧ ∀ l, H l = none → Q (.ref l) (upd H l (.lst ys))) := by subst h; exact call_list_of
end
end Sb

namespace Sb
open PySem PySem.Spec PyProof.Rows L2
/-- set(a tuple of ints) -/
def rSetTupI (K : PySem.W.Frag) (w : World) : List V → Hp → VK → Prop := fun xs H Q => ∃ (p : Addr) (ns : List Int), xs = [.ref p] ∧ SqT K H p (ns.map V.int) ∧ ns.length ≤ 1000 ∧
  ∀ (a : Addr) (c : Nat), H a = none → c ≤ ns.length → Q (.ref a) (upd H a (SetO w a (fun j => decide (j ∈ ns)) c))
theorem cr_setTupI {X : Cx} (hc : X.calm = true) : CallR X (.type "set") (rSetTupI X.K X.w) := by
  intro pins s σ H xs us Q I r h
  obtain ⟨p, ns, rfl, hq, hl, q⟩ := h
  rw [Vals.ref1 r]
  obtain ⟨its, rv, pt, hz⟩ := I.tuple hq
  have hi : IntsAre its.toArray.toList ns := ints_of_vals rv
  refine call_set_tupI ns (I.ok.hd hc) (show s.heap.IsTuple p its.toArray from pt) hi (by unfold scanBound; omega) fun h' tk c R1 hcn k => ?_
  exact ⟨.ref s.heap.objs.size, upd H s.heap.objs.size (SetO X.w s.heap.objs.size (fun j => decide (j ∈ ns)) c), I.laid (t' := tk) k (Nat.le_refl _) (setO_new R1), rfl, q _ c (I.hok.fresh (Nat.le_refl _)) hcn⟩
end Sb

namespace Sb
open PySem PySem.Spec PyProof.Rows L2
/-! ### a tuple times a number: the tuple itself where it is empty or taken once -/
theorem mul_self (l : Addr) (items : Array Value) (n : Nat) (dd : Option Addr) (sl : Array (Option Value)) (x : Int) (u : Tok) (c0 : (decide (x < -(2 ^ 63)) || decide (x ≥ 2 ^ 63)) = false) (c1 : (items.isEmpty || x == 1) = true) :
    Meets (Builtin.«tuple.__mul__» ⟨[.ref l, .int x u], []⟩) (fun _ R s => s.heap.get? l = some { cls := .type "tuple", dict := dd, data := .seq items n, slots := sl } ∧ R (.ok (.ret (Value.ref l))) s) :=
  .of_wp fun prog w A R s h => by
    obtain ⟨hp, g, d, tk, os⟩ := s
    obtain ⟨hl, h⟩ := h
    have f1 := AutoSeq1.idx_int
    wp_walk using wpAny_loadPart' hl
    repeat (first
      | (refine wpAny_ite_false (decide_eq_false (by rw [c0]; exact Bool.false_ne_true)) ?_; wp_walk using wpAny_loadPart' hl)
      | (refine wpAny_ite_true (decide_eq_true c1) ?_; wp_walk using wpAny_loadPart' hl))
    exact ⟨_, rfl, h⟩
def rRepA (K : PySem.W.Frag) : R2 := fun x y H Q => ∃ l k xs, x = .ref l ∧ y = .int k ∧ SqT K H l xs ∧ 1 ≤ k ∧ k ≤ 1000 ∧ xs.length ≤ 1000 ∧ ((xs = [] ∨ k = 1) → Q (.ref l) H) ∧ (xs ≠ [] → k ≠ 1 → ∀ p, H p = none → Q (.ref p) (upd H p (.tup (List.replicate k.toNat xs).flatten)))
theorem op_repA {X : Cx} : OpR X (binaryOp .Mult) (rRepA X.K) := by
  intro pins s σ H x y v u Q I rx ry h
  obtain ⟨l, k, xs, e1, e2, hT, h1, h2, hz, q1, q2⟩ := h
  by_cases hs : xs = [] ∨ k = 1
  · have q := q1 hs
    subst e1 e2
    cases rx
    obtain ⟨t, rfl⟩ := ry
    obtain ⟨its, r, ⟨⟨cls, dd, data, sl⟩, ho, hc, n, hd⟩, hsz⟩ := I.tuple hT
    simp only at hc hd
    subst hc hd
    have c1 : (its.toArray.isEmpty || k == 1) = true := by
      rcases hs with e | e
      · subst e
        cases r
        rfl
      · rw [e, beq_self_eq_true, Bool.or_true]
    have c0 : (decide (k < -(2 ^ 63)) || decide (k ≥ 2 ^ 63)) = false := by
      rw [decide_eq_false (by omega), decide_eq_false (by omega)]
      rfl
    refine wpAny_binaryOp_repeat_ref (T := "tuple") (U := "int") (by decide) ⟨_, ho, rfl⟩ (fun s' => typeIs_int s' k t) noFill_tuple_mul F.fills_int_mul F.slot_int_rmul repeat_tuple F.slot_int_index.lookup
      (call_meets F.slot_int_rmul (typeIs_int s k t) F.entry_int_rmul (F.args_int_rmul_2 _ _) (int_rmul_tuple k t l its.toArray n dd sl) ⟨ho, rfl, ⟨_, ho, rfl⟩, ?_⟩)
    exact call_meets F.slot_tuple_mul ⟨_, ho, rfl⟩ F.entry_tuple_mul (F.args_tuple_mul_2 _ _) (mul_self l its.toArray n dd sl k t c0 c1) ⟨ho, ⟨.ref l, H, I, rfl, q⟩⟩
  · have hn : xs ≠ [] := fun e => hs (.inl e)
    have hk : k ≠ 1 := fun e => hs (.inr e)
    exact op_repT pins s σ H x y v u Q I rx ry ⟨l, k, xs, e1, e2, hT, hn, by omega, h2, hz, q2 hn hk⟩
theorem op_repA' {X : Cx} (K : PySem.W.Frag) (h : X.K = K) : OpR X (binaryOp .Mult) (rRepA K) := by subst h; exact op_repA
theorem rd_repA {K : PySem.W.Frag} {k : Int} {xs : List PyData} (h1 : 1 ≤ k) (hk : k ≤ 1000) (hl : xs.length ≤ 1000) : RD K (rRepA K) (.tuple xs) (.int k) (.tuple (repD k.toNat xs)) := fun I H x y m hx hy Q q => by
  cases hx with
  | tup h2 k1 =>
    cases hy
    rename_i a vs
    refine ⟨a, k, vs, rfl, rfl, ex_sqT m.sub h2, h1, hk, by rw [DpAll.len k1]; exact hl, fun e => ?_, fun _ _ p hp => ?_⟩
    · have e2 : repD k.toNat xs = xs := by
        rcases e with e | e
        · subst e
          cases k1
          unfold repD
          generalize k.toNat = j
          induction j with
          | zero => rfl
          | succ j ih => rw [List.replicate_succ, List.flatten_cons, ih]; rfl
        · subst e
          unfold repD
          rw [show (1 : Int).toNat = 1 from rfl, List.replicate_one]
          simp
      rw [e2] at q
      exact q _ I H (.refl m) (.tup h2 k1)
    · exact q _ _ _ (Ext.lay m hp) (.tup (.inl (.inl upd_same)) (DpAll.mono (same_new (m.sub.free hp)) _ _ (DpAll.rep k1 k.toNat)))
section
variable {K : PySem.W.Frag} {σ : L2.St} {I H : Hp} {te : TE} {d : PyData} {xs : List PyData}
theorem evd_neg {i : Int} (h : EvD K te σ I (.int i)) : EvD K (tUn (rU fun i => .int (-i)) te) σ I (.int (-i)) := fun I1 H1 s m Q q => h I1 H1 s m _ fun v I2 H2 e k => by
  cases k
  exact ⟨i, rfl, q _ I2 H2 e (.int _)⟩
theorem rd_ixA {i : Int} (e : atI xs i = some d) : RD K (rIxT K) (.tuple xs) (.int i) d := fun I H x y m hx hy Q q => by
  cases hx with
  | tup h1 k1 =>
    cases hy
    rename_i a vs
    obtain ⟨j, hs, hj, _⟩ := atI_get e
    obtain ⟨v, ev, kv⟩ := DpAll.got k1 hj
    have e2 : atI vs i = some v := by
      unfold atI at e ⊢
      rw [DpAll.len k1]
      cases q : ixN xs.length i with
      | none => rw [q] at e; cases e
      | some j' =>
        rw [q] at e
        have e3 : xs[j']? = some d := e
        obtain ⟨v', ev', kv'⟩ := DpAll.got k1 e3
        have hjj : j' = j := by
          have h2 := (ixN_seq q).1
          rw [hs] at h2
          exact (Option.some.inj h2).symm
        show vs[j']? = some v
        rw [hjj]
        exact ev
    exact ⟨a, vs, i, v, rfl, rfl, ex_sqT m.sub h1, e2, q _ I H (.refl m) kv⟩
theorem rd_notB {x y : Bool} : RD K rNotB (.bool x) (.bool y) (.bool (!decide (x = y))) := fun I H v w m hx hy Q q => by
  cases hx
  cases hy
  exact ⟨x, y, rfl, rfl, q _ I H (.refl m) (.bl _)⟩
theorem rd_sub {i j : Int} : RD K (rI0 fun i j => .int (i - j)) (.int i) (.int j) (.int (i - j)) := rd_I0 fun _ => .int _
theorem rd_add {i j : Int} : RD K (rI0 fun i j => .int (i + j)) (.int i) (.int j) (.int (i + j)) := rd_I0 fun _ => .int _
theorem rd_repA' {k : Int} (h1 : 1 ≤ k) (hk : k ≤ 1000) (hl : xs.length ≤ 1000) (hd : d = .tuple (repD k.toNat xs)) : RD K (rRepA K) (.tuple xs) (.int k) d := by
  subst hd
  exact rd_repA h1 hk hl
theorem cutD_le (xs : List PyData) (lo hi : Option Int) : (cutD xs lo hi).length ≤ xs.length := by
  unfold cutD
  rw [List.length_take, List.length_drop]
  omega
theorem cut_last (xs : List PyData) (x : PyData) : cutD (xs ++ [x]) none (some (-1)) = xs := by
  unfold cutD
  have e : HT.sIx (xs ++ [x]).length (xs ++ [x]).length (some (-1)) = xs.length := by
    show (if (-1 : Int) < 0 then ((-1 : Int) + ((xs ++ [x]).length : Int)).toNat else min (-1 : Int).toNat (xs ++ [x]).length) = xs.length
    rw [if_pos (by decide), List.length_append, List.length_singleton]
    omega
  rw [e, HT.sIx_none, List.drop_zero, Nat.sub_zero, List.take_left']
  rfl
/-- for x in a list that is made for it and stays -/
theorem s_forL {g : TG} {tb : TS} {D : Ends} {ds : List PyData} (Pv : Hp → Nat → L2.St → Hp → Prop) (h : EvD K te σ I (.list ds)) (m : Im I H)
    (h0 : ∀ I' H', Ext I H I' H' → Pv I' 0 σ H') (hl : ∀ I' i σ H, Pv I' i σ H → ∃ I'', Same I' I'' ∧ Im I'' H)
    (hs : ∀ I' i x d σ H, ds[i]? = some d → Dp K I' x d → Pv I' i σ H → g x σ H fun σ2 H2 => tb { D with nx := Pv I' (i + 1), ct := Pv I' (i + 1), bk := D.nx } σ2 H2)
    (hd : ∀ I' σ H, Pv I' ds.length σ H → D.nx σ H) : tFor (iList K te) g tb D σ H :=
  h I H (Same.refl _) m _ fun v I2 H2 e k => by
    cases k with
    | lst hS ha =>
      rename_i a vs
      refine ⟨a, rfl, ⟨vs, e.im.sub.seq hS⟩, for_list (xs := vs) (Pv I2) (h0 I2 H2 e) (fun i σ H _ p => ?_) (fun i x σ H ei p => ?_) (fun σ H p => ?_)⟩
      · obtain ⟨I3, s3, m3⟩ := hl I2 i σ H p
        exact m3.sub.seq (s3.seq hS)
      · obtain ⟨d, ed, kd⟩ := DpAll.get ha ei
        exact hs I2 i x d σ H ed kd p
      · rw [DpAll.len ha] at p
        exact hd I2 σ H p
theorem map_take_succ {α β : Type} {f : α → β} {l : List α} {i : Nat} {x : α} (e : l[i]? = some x) : (l.take (i + 1)).map f = (l.take i).map f ++ [f x] := by
  rw [List.take_add_one, e, List.map_append]
  rfl
end
end Sb

namespace Sb
open PySem PySem.Spec PyProof.Rows L2
def mREADINGS : List (Str × Int) := [("join", 2), ("sort", 1), ("turn", 1), ("first", 1), ("rest", 1), ("less", 2), ("same", 2), ("pick", 3)]
def topS (i : Nat) : Stmt := PySem.Challenge.pw_samebuilds_k01_whole_recipes.main.body.getD i (.Pass ⟨0, 0, 0, 0⟩)
abbrev s_is_number : Stmt := topS 8
theorem sc_is_number : FnScope ["value", "least", "most"] ["value", "least", "most"] (defScope s_is_number) := ⟨rfl, rfl, rfl, by decide +kernel, rfl, by decide +kernel, by decide +kernel⟩
abbrev s_is_tuple : Stmt := topS 9
theorem sc_is_tuple : FnScope ["value", "least", "most"] ["value", "least", "most"] (defScope s_is_tuple) := ⟨rfl, rfl, rfl, by decide +kernel, rfl, by decide +kernel, by decide +kernel⟩
abbrev s_is_text : Stmt := topS 10
theorem sc_is_text : FnScope ["value", "longest", "letter"] ["value", "longest"] (defScope s_is_text) := ⟨rfl, rfl, rfl, by decide +kernel, rfl, by decide +kernel, by decide +kernel⟩
abbrev s_is_ascending : Stmt := topS 11
theorem sc_is_ascending : FnScope ["values", "at"] ["values"] (defScope s_is_ascending) := ⟨rfl, rfl, rfl, by decide +kernel, rfl, by decide +kernel, by decide +kernel⟩
abbrev s_is_thing : Stmt := topS 12
theorem sc_is_thing : FnScope ["value", "text"] ["value"] (defScope s_is_thing) := ⟨rfl, rfl, rfl, by decide +kernel, rfl, by decide +kernel, by decide +kernel⟩
abbrev s_are_things : Stmt := topS 13
theorem sc_are_things : FnScope ["value", "many", "thing"] ["value"] (defScope s_are_things) := ⟨rfl, rfl, rfl, by decide +kernel, rfl, by decide +kernel, by decide +kernel⟩
abbrev s_is_reading : Stmt := topS 14
theorem sc_is_reading : FnScope ["value", "many_things", "step", "word", "number"] ["value", "many_things", "step"] (defScope s_is_reading) := ⟨rfl, rfl, rfl, by decide +kernel, rfl, by decide +kernel, by decide +kernel⟩
abbrev s_is_step : Stmt := topS 15
theorem sc_is_step : FnScope ["value", "many_things", "step", "operation", "reads", "reading"] ["value", "many_things", "step"] (defScope s_is_step) := ⟨rfl, rfl, rfl, by decide +kernel, rfl, by decide +kernel, by decide +kernel⟩
abbrev s_are_steps : Stmt := topS 16
theorem sc_are_steps : FnScope ["value", "many_things", "at"] ["value", "many_things"] (defScope s_are_steps) := ⟨rfl, rfl, rfl, by decide +kernel, rfl, by decide +kernel, by decide +kernel⟩
abbrev s_is_made : Stmt := topS 17
theorem sc_is_made : FnScope ["value", "many_steps", "number"] ["value", "many_steps"] (defScope s_is_made) := ⟨rfl, rfl, rfl, by decide +kernel, rfl, by decide +kernel, by decide +kernel⟩
abbrev s_is_recipe : Stmt := topS 18
theorem sc_is_recipe : FnScope ["value", "things", "steps", "made"] ["value"] (defScope s_is_recipe) := ⟨rfl, rfl, rfl, by decide +kernel, rfl, by decide +kernel, by decide +kernel⟩
abbrev s_cell_at : Stmt := topS 20
theorem sc_cell_at : FnScope ["_law_script", "_law_k", "_law_spare", "_law_again"] ["_law_script", "_law_k"] (defScope s_cell_at) := ⟨rfl, rfl, rfl, by decide +kernel, rfl, by decide +kernel, by decide +kernel⟩
abbrev s_mixed : Stmt := topS 21
theorem sc_mixed : FnScope ["_law_script", "_law_k", "_law_many", "_law_spun"] ["_law_script", "_law_k", "_law_many"] (defScope s_mixed) := ⟨rfl, rfl, rfl, by decide +kernel, rfl, by decide +kernel, by decide +kernel⟩
abbrev s_draw : Stmt := topS 22
theorem sc_draw : FnScope ["_law_script", "_law_state", "_law_many"] ["_law_script", "_law_state", "_law_many"] (defScope s_draw) := ⟨rfl, rfl, rfl, by decide +kernel, rfl, by decide +kernel, by decide +kernel⟩
abbrev s_some_of : Stmt := topS 23
theorem sc_some_of : FnScope ["_law_script", "_law_state", "_law_some", "_law_count", "_law_left", "_law_found"] ["_law_script", "_law_state", "_law_some", "_law_count"] (defScope s_some_of) := ⟨rfl, rfl, rfl, by decide +kernel, rfl, by decide +kernel, by decide +kernel⟩
abbrev s_pick : Stmt := topS 24
theorem sc_pick : FnScope ["_law_script", "_law_state", "_law_some"] ["_law_script", "_law_state", "_law_some"] (defScope s_pick) := ⟨rfl, rfl, rfl, by decide +kernel, rfl, by decide +kernel, by decide +kernel⟩
abbrev s_some_thing : Stmt := topS 25
theorem sc_some_thing : FnScope ["_law_script", "_law_state", "_law_some"] ["_law_script", "_law_state"] (defScope s_some_thing) := ⟨rfl, rfl, rfl, by decide +kernel, rfl, by decide +kernel, by decide +kernel⟩
abbrev s_some_step : Stmt := topS 26
theorem sc_some_step : FnScope ["_law_script", "_law_state", "_law_things", "_law_count", "_law_names", "_law_name", "_law_reads", "_law_again"] ["_law_script", "_law_state", "_law_things", "_law_count"] (defScope s_some_step) := ⟨rfl, rfl, rfl, by decide +kernel, rfl, by decide +kernel, by decide +kernel⟩
abbrev s_some_recipe : Stmt := topS 27
theorem sc_some_recipe : FnScope ["_law_script", "_law_state", "_law_again", "_law_things", "_law_steps", "_law_made"] ["_law_script", "_law_state"] (defScope s_some_recipe) := ⟨rfl, rfl, rfl, by decide +kernel, rfl, by decide +kernel, by decide +kernel⟩
abbrev s_law : Stmt := topS 28
theorem sc_law : FnScope ["_law_script", "_law_state", "_law_recipe", "_law_things", "_law_steps", "_law_made", "_law_count", "_law_bad", "_law_own", "_law_last", "_law_one"] ["_law_script"] (defScope s_law) := ⟨rfl, rfl, rfl, by decide +kernel, rfl, by decide +kernel, by decide +kernel⟩
/-- what the top has written -/
structure Tx (K : PySem.W.Frag) (mg : Str → Option Value) (w : World) where
  f_is_number : Addr
  d_is_number : FuncData
  F_is_number : Fun K "is_number" "is_number" s_is_number f_is_number d_is_number
  g_is_number : mg "is_number" = some (.ref f_is_number)
  b_is_number : Binds K d_is_number ["value", "least", "most"] []
  f_is_tuple : Addr
  d_is_tuple : FuncData
  F_is_tuple : Fun K "is_tuple" "is_tuple" s_is_tuple f_is_tuple d_is_tuple
  g_is_tuple : mg "is_tuple" = some (.ref f_is_tuple)
  b_is_tuple : Binds K d_is_tuple ["value", "least", "most"] []
  f_is_text : Addr
  d_is_text : FuncData
  F_is_text : Fun K "is_text" "is_text" s_is_text f_is_text d_is_text
  g_is_text : mg "is_text" = some (.ref f_is_text)
  b_is_text : Binds K d_is_text ["value", "longest"] []
  f_is_ascending : Addr
  d_is_ascending : FuncData
  F_is_ascending : Fun K "is_ascending" "is_ascending" s_is_ascending f_is_ascending d_is_ascending
  g_is_ascending : mg "is_ascending" = some (.ref f_is_ascending)
  b_is_ascending : Binds K d_is_ascending ["values"] []
  f_is_thing : Addr
  d_is_thing : FuncData
  F_is_thing : Fun K "is_thing" "is_thing" s_is_thing f_is_thing d_is_thing
  g_is_thing : mg "is_thing" = some (.ref f_is_thing)
  b_is_thing : Binds K d_is_thing ["value"] []
  f_are_things : Addr
  d_are_things : FuncData
  F_are_things : Fun K "are_things" "are_things" s_are_things f_are_things d_are_things
  g_are_things : mg "are_things" = some (.ref f_are_things)
  b_are_things : Binds K d_are_things ["value"] []
  f_is_reading : Addr
  d_is_reading : FuncData
  F_is_reading : Fun K "is_reading" "is_reading" s_is_reading f_is_reading d_is_reading
  g_is_reading : mg "is_reading" = some (.ref f_is_reading)
  b_is_reading : Binds K d_is_reading ["value", "many_things", "step"] []
  f_is_step : Addr
  d_is_step : FuncData
  F_is_step : Fun K "is_step" "is_step" s_is_step f_is_step d_is_step
  g_is_step : mg "is_step" = some (.ref f_is_step)
  b_is_step : Binds K d_is_step ["value", "many_things", "step"] []
  f_are_steps : Addr
  d_are_steps : FuncData
  F_are_steps : Fun K "are_steps" "are_steps" s_are_steps f_are_steps d_are_steps
  g_are_steps : mg "are_steps" = some (.ref f_are_steps)
  b_are_steps : Binds K d_are_steps ["value", "many_things"] []
  f_is_made : Addr
  d_is_made : FuncData
  F_is_made : Fun K "is_made" "is_made" s_is_made f_is_made d_is_made
  g_is_made : mg "is_made" = some (.ref f_is_made)
  b_is_made : Binds K d_is_made ["value", "many_steps"] []
  f_is_recipe : Addr
  d_is_recipe : FuncData
  F_is_recipe : Fun K "is_recipe" "is_recipe" s_is_recipe f_is_recipe d_is_recipe
  g_is_recipe : mg "is_recipe" = some (.ref f_is_recipe)
  b_is_recipe : Binds K d_is_recipe ["value"] []
  f__law_cell_at : Addr
  d__law_cell_at : FuncData
  F__law_cell_at : Fun K "_law_cell_at" "_law_cell_at" s_cell_at f__law_cell_at d__law_cell_at
  g__law_cell_at : mg "_law_cell_at" = some (.ref f__law_cell_at)
  b__law_cell_at : Binds K d__law_cell_at ["_law_script", "_law_k"] []
  f__law_mixed : Addr
  d__law_mixed : FuncData
  F__law_mixed : Fun K "_law_mixed" "_law_mixed" s_mixed f__law_mixed d__law_mixed
  g__law_mixed : mg "_law_mixed" = some (.ref f__law_mixed)
  b__law_mixed : Binds K d__law_mixed ["_law_script", "_law_k", "_law_many"] []
  f__law_draw : Addr
  d__law_draw : FuncData
  F__law_draw : Fun K "_law_draw" "_law_draw" s_draw f__law_draw d__law_draw
  g__law_draw : mg "_law_draw" = some (.ref f__law_draw)
  b__law_draw : Binds K d__law_draw ["_law_script", "_law_state", "_law_many"] []
  f__law_some_of : Addr
  d__law_some_of : FuncData
  F__law_some_of : Fun K "_law_some_of" "_law_some_of" s_some_of f__law_some_of d__law_some_of
  g__law_some_of : mg "_law_some_of" = some (.ref f__law_some_of)
  b__law_some_of : Binds K d__law_some_of ["_law_script", "_law_state", "_law_some", "_law_count"] []
  f__law_pick : Addr
  d__law_pick : FuncData
  F__law_pick : Fun K "_law_pick" "_law_pick" s_pick f__law_pick d__law_pick
  g__law_pick : mg "_law_pick" = some (.ref f__law_pick)
  b__law_pick : Binds K d__law_pick ["_law_script", "_law_state", "_law_some"] []
  f__law_some_thing : Addr
  d__law_some_thing : FuncData
  F__law_some_thing : Fun K "_law_some_thing" "_law_some_thing" s_some_thing f__law_some_thing d__law_some_thing
  g__law_some_thing : mg "_law_some_thing" = some (.ref f__law_some_thing)
  b__law_some_thing : Binds K d__law_some_thing ["_law_script", "_law_state"] []
  f__law_some_step : Addr
  d__law_some_step : FuncData
  F__law_some_step : Fun K "_law_some_step" "_law_some_step" s_some_step f__law_some_step d__law_some_step
  g__law_some_step : mg "_law_some_step" = some (.ref f__law_some_step)
  b__law_some_step : Binds K d__law_some_step ["_law_script", "_law_state", "_law_things", "_law_count"] []
  f__law_some_recipe : Addr
  d__law_some_recipe : FuncData
  F__law_some_recipe : Fun K "_law_some_recipe" "_law_some_recipe" s_some_recipe f__law_some_recipe d__law_some_recipe
  g__law_some_recipe : mg "_law_some_recipe" = some (.ref f__law_some_recipe)
  b__law_some_recipe : Binds K d__law_some_recipe ["_law_script", "_law_state"] []
  f_law : Addr
  d_law : FuncData
  F_law : Fun K "law" "law" s_law f_law d_law
  g_law : mg "law" = some (.ref f_law)
  b_law : Binds K d_law ["_law_script"] []
  k_MOST_THINGS : Tok
  g_MOST_THINGS : mg "MOST_THINGS" = some (.int 5 k_MOST_THINGS)
  k_MOST_TEXTS : Tok
  g_MOST_TEXTS : mg "MOST_TEXTS" = some (.int 4 k_MOST_TEXTS)
  k_LONGEST_TEXT : Tok
  g_LONGEST_TEXT : mg "LONGEST_TEXT" = some (.int 4 k_LONGEST_TEXT)
  k_MOST_WORLDS : Tok
  g_MOST_WORLDS : mg "MOST_WORLDS" = some (.int 256 k_MOST_WORLDS)
  k_MOST_STEPS : Tok
  g_MOST_STEPS : mg "MOST_STEPS" = some (.int 8 k_MOST_STEPS)
  k_MOST_MADE : Tok
  g_MOST_MADE : mg "MOST_MADE" = some (.int 3 k_MOST_MADE)
  a_READINGS : Addr
  g_READINGS : mg "READINGS" = some (.ref a_READINGS)
  m_READINGS : KDm K w a_READINGS mREADINGS
  z_len : mg "len" = none
  z_int : mg "int" = none
  z_str : mg "str" = none
  z_bool : mg "bool" = none
  z_tuple : mg "tuple" = none
  z_list : mg "list" = none
  z_isinstance : mg "isinstance" = none
  z_range : mg "range" = none
  z_min : mg "min" = none
  z_any : mg "any" = none
  z_sorted : mg "sorted" = none
  z_set : mg "set" = none
/-! ### the walk through data -/
/-- Same, by the chain of what is known: each heap has one that it came of -/
local macro_rules | `(tactic| walk_at "sb_same") => `(tactic| first
  | exact Same.refl _
  | assumption
  | exact Ext.ii (by assumption)
  | (refine Same.trans ?_ (by assumption); walk_at "sb_same")
  | (refine Same.trans ?_ (Ext.ii (by assumption)); walk_at "sb_same"))
/-- a length's bound -/
local macro_rules | `(tactic| walk_at "sb_len") => `(tactic| first
  | decide
  | omega
  | (simp only [List.length_cons, List.length_nil, List.length_append, repD, List.length_replicate]; omega)
  | (simp [repD]; omega)
  | (simp [repD]))
/-- what an expression evaluates to -/
local macro_rules | `(tactic| walk_at "sb_ev") => `(tactic| (repeat' (first
  | exact evd_int
  | exact evd_str
  | exact evd_bl
  | exact evd_non
  | exact evds_nil
  | exact evo_none
  | apply evo_some
  | apply evds_cons
  | apply evd_tup
  | apply evd_lst
  | apply evc_lst
  | (refine evd_var rfl (Dp.mono ?_ _ _ (by assumption)); walk_at "sb_same")
  | apply evd_slT
  | apply evd_op
  | apply evd_neg
  | apply evd_cb
  | exact cd_len
  | exact cd_listT
  | exact rd_sub
  | exact rd_add
  | exact rd_notB
  | (refine rd_repA' ?_ ?_ ?_ rfl)
  | (exact rd_ixA (by first | exact atI_last _ _ | exact atI_nat rfl))
  | (show (_ : Int) ≤ _; first | decide | omega)
  | exact rd_cat (by walk_at "sb_len")
  | (refine rd_rep' (by decide) (by decide) (List.cons_ne_nil _ _) ?_ rfl)
  | (show List.length _ ≤ _; walk_at "sb_len"))))
local macro_rules | `(tactic| walk_at "sb_evp") => `(tactic| (repeat' (first
  | exact evp_int
  | exact evp_str
  | exact evps_nil
  | apply evps_cons
  | apply evp_tup
  | (show List.length _ ≤ _; walk_at "sb_len"))))

/-! ### a cell of the script: some int -/
def spCell (K : PySem.W.Frag) : Sp := fun vs H Q _ => ∃ (a : Addr) (ns : List Int) (k : Nat), vs = [.ref a, .int (k : Int)] ∧ SqL K H a (ns.map V.int) ∧ (∀ p o, H p = none → SqL K (upd H p o) a (ns.map V.int)) ∧ ns.length ≤ 63 ∧ k ≤ 1000000 ∧ ∀ (i : Int) H', Same H H' → Q (.int i) H'
theorem fmod_nat (k n : Nat) (h : 0 < n) : (k : Int).fmod (n : Int) = ((k % n : Nat) : Int) := by
  rw [Int.fmod_eq_emod_of_nonneg _ (by omega)]
  rfl
theorem fdiv_nat (k n : Nat) : (k : Int).fdiv (n : Int) = ((k / n : Nat) : Int) := by
  rw [Int.fdiv_eq_ediv_of_nonneg _ (by omega)]
  rfl
section
variable {P : Program} {w : World} {K : PySem.W.Frag} {mg : Str → Option Value} {base : Heap}
theorem ok_cell_at (T : Tx K mg w) : FnOk P w K mg base CX0 1 T.f__law_cell_at T.d__law_cell_at ["_law_script", "_law_k"] (spCell K) := by
  refine T.F__law_cell_at.ok sc_cell_at (fun vs H Q E h => ?_) (fun cdv A outer s H vs Q E hr h => ?_)
  · obtain ⟨a, ns, k, rfl, _⟩ := h
    rfl
  · obtain ⟨a, ns, k, rfl, hS, hSn, hl, hk, q⟩ := h
    refine ⟨_, (pss_cons (ps_if (pt_cmpR op_lt (pv 1) (pe_callB call_len_seq (by rfl) T.z_len PySem.boot_len (pa_cons (pv 0) pa_nil)) (nomark _)) (pss_one (ps_ret (pe_ix ix_list (pv 0) (pv 1) (fun _ _ => rfl)))) pss_nil)
      (pss_cons (ps_if (pt_cmpR (op_eqD hr.units) (pv 0) (pe_lst pa_nil) (nomark _)) (pss_one (ps_ret pe_int)) pss_nil)
      (pss_cons (ps_set (i := 2) sc_cell_at.nd rfl (Or.inl rfl) (pe_ix ix_list (pv 0) (pe_op op_modN (pv 1) (pe_callB call_len_seq (by rfl) T.z_len PySem.boot_len (pa_cons (pv 0) pa_nil))) (fun _ _ => rfl)))
      (pss_cons (ps_for PassesOwn.never rfl (pi_range1 (by rfl) T.z_range (pa_cons (pe_callB (call_min2 rfl) (by rfl) T.z_min PyProof.Rows.boot_min (pa_cons (pe_op op_fdivN (pv 1) (pe_callB call_len_seq (by rfl) T.z_len PySem.boot_len (pa_cons (pv 0) pa_nil))) (pa_cons pe_int pa_nil))) pa_nil)) (pg_name (i := 3) sc_cell_at.nd rfl (Or.inl rfl))
        (pss_one (ps_set (i := 2) sc_cell_at.nd rfl (Or.inl rfl) (pe_op op_fdivN (pv 2) pe_int))))
      (pss_one (ps_ret (pe_op op_add (pe_op op_add (pe_op op_mul (pe_ix ix_list (pv 0) (pe_op op_modN (pv 1) (pe_callB call_len_seq (by rfl) T.z_len PySem.boot_len (pa_cons (pv 0) pa_nil))) (fun _ _ => rfl)) pe_int) (pv 1)) (pe_op op_mul (pv 2) pe_int)))))))), ?_⟩
    have hlen : (ns.map V.int).length = ns.length := List.length_map ..
    -- if k < len(script): return script[k]
    refine ⟨_, rfl, _, rfl, a, _, rfl, .inl hS, _, _, rfl, rfl, _, rfl, ite2 (fun e => ?_) (fun e => ?_)⟩
    · have e1 : (k : Int) < ((ns.map V.int).length : Int) := of_decide_eq_true e
      have e2 : k < ns.length := by rw [hlen] at e1; omega
      refine ⟨_, rfl, _, rfl, a, _, _, .int ns[k], rfl, rfl, hS, atI_nat (by rw [List.getElem?_map, List.getElem?_eq_getElem e2]; rfl), q _ _ (Same.refl _)⟩
    -- if script == []: return 0
    refine ⟨_, rfl, Nat.zero_le _, fun p hp => ?_⟩
    have s1 : Same H (upd H p (.lst [])) := same_new hp
    have hS1 := hSn p (.lst []) hp
    refine ⟨.list (ns.map PyData.int), .list [], .lst hS1 (DpAll.ints ns), .lst (.inl (.inl upd_same)) .nil, shaped_ints ns, shaped_nil, _, rfl, ite2 (fun e => ?_) (fun e => ?_)⟩
    · exact q _ _ s1
    have e0 : 0 < ns.length := by
      rw [eqv_nil] at e
      cases ns with
      | nil => exact absurd rfl e
      | cons x r => exact Nat.succ_pos _
    have hget : atI (ns.map V.int) ((k : Int).fmod ((ns.map V.int).length : Int)) = some (.int (ns[k % ns.length]'(Nat.mod_lt _ e0))) := by
      rw [hlen, fmod_nat k _ e0]
      exact atI_nat (by rw [List.getElem?_map, List.getElem?_eq_getElem (Nat.mod_lt _ e0)]; rfl)
    -- spare = script[k % len(script)]
    refine ⟨_, rfl, _, rfl, _, rfl, a, _, rfl, .inl hS1, _, _, rfl, rfl, (by rw [hlen]; omega), a, _, _, _, rfl, rfl, hS1, hget, ?_⟩
    -- the loop
    refine ⟨_, rfl, _, rfl, a, _, rfl, .inl hS1, _, _, rfl, rfl, ⟨by rw [hlen]; omega, by rw [hlen]; omega⟩, _, _, rfl, _, rfl, ?_, ?_, ?_⟩
    · rw [hlen, fdiv_nat]
      generalize k / ns.length = d
      split <;> omega
    · split <;> omega
    refine for_range (fun i σ H' => H' = upd H p (.lst []) ∧ ∃ (z : Int) (v : Option V), σ = [some (.ref a), some (.int (k : Int)), some (.int z), v]) ⟨rfl, _, _, rfl⟩ ?_ ?_
    · rintro i σ H' hi ⟨rfl, z, v, rfl⟩
      exact ⟨_, rfl, _, _, rfl, rfl, ⟨by decide, by decide⟩, rfl, _, _, rfl⟩
    · rintro σ H' ⟨rfl, z, v, rfl⟩
      refine ⟨_, rfl, _, rfl, _, rfl, a, _, rfl, .inl hS1, _, _, rfl, rfl, (by rw [hlen]; omega), a, _, _, _, rfl, rfl, hS1, hget, _, _, rfl, rfl, .inr ⟨by decide, by decide⟩, ?_⟩
      exact ⟨_, rfl, _, _, rfl, rfl, _, rfl, _, _, rfl, rfl, .inr ⟨by decide, by decide⟩, _, _, rfl, rfl, q _ _ s1⟩
end

/-! ### a drawn number: any one below many -/
def spMixed (K : PySem.W.Frag) : Sp := fun vs H Q _ => ∃ (a : Addr) (ns : List Int) (k : Nat) (many : Int), vs = [.ref a, .int (k : Int), .int many] ∧ SqL K H a (ns.map V.int) ∧ (∀ p o, H p = none → SqL K (upd H p o) a (ns.map V.int)) ∧ ns.length ≤ 63 ∧ k ≤ 1000000 ∧ 0 < many ∧ ∀ (i : Int) H', 0 ≤ i → i < many → Same H H' → Q (.int i) H'
theorem nz1 : (2147483647 : Int) ≠ 0 := by decide
theorem nz2 : (999983 : Int) ≠ 0 := by decide
section
variable {P : Program} {w : World} {K : PySem.W.Frag} {mg : Str → Option Value} {base : Heap}
theorem ok_mixed (T : Tx K mg w) : FnOk P w K mg base CX0 2 T.f__law_mixed T.d__law_mixed ["_law_script", "_law_k", "_law_many"] (spMixed K) := by
  have G_cell_at : FnOk P w K mg base CX0 1 T.f__law_cell_at T.d__law_cell_at ["_law_script", "_law_k"] (spCell K) := ok_cell_at T
  refine T.F__law_mixed.ok sc_mixed (fun vs H Q E h => ?_) (fun cdv A outer s H vs Q E hr h => ?_)
  · obtain ⟨a, ns, k, many, rfl, _⟩ := h
    rfl
  · obtain ⟨a, ns, k, many, rfl, hS, hSn, hl, hk, hm, q⟩ := h
    refine ⟨_, (pss_cons (ps_set (i := 3) sc_mixed.nd rfl (Or.inl rfl) (pe_op op_modN (pe_op op_add (pe_op op_add (pe_op op_mul (pe_call G_cell_at hr (by rfl) T.g__law_cell_at T.F__law_cell_at.kp T.b__law_cell_at .nil pass0 (pa_cons (pv 0) (pa_cons (pv 1) pa_nil))) pe_int) (pe_op op_mul pe_int (pv 1))) pe_int) pe_int))
      (pss_one (ps_ret (pe_op op_modN (pe_op op_modN (pe_op op_modN (pe_op op_pow (pv 3) pe_int) pe_int) pe_int) (pv 2))))), ?_⟩
    refine ⟨_, rfl, _, rfl, a, ns, k, rfl, hS, hSn, hl, hk, fun i H1 sm => ?_⟩
    refine ⟨_, _, rfl, rfl, .inr ⟨by decide, by decide⟩, _, rfl, _, _, rfl, rfl, .inl ⟨by decide, by decide⟩, _, _, rfl, rfl, _, _, rfl, rfl, _, _, rfl, rfl, nz1, ?_⟩
    have h0 : 0 ≤ (i * 1103515245 + 7919 * (k : Int) + 12345).fmod 2147483647 := Int.fmod_nonneg_of_pos _ (by decide)
    have h1 : (i * 1103515245 + 7919 * (k : Int) + 12345).fmod 2147483647 < 2147483647 := Int.fmod_lt_of_pos _ (by decide)
    refine ⟨_, rfl, _, _, rfl, rfl, ⟨by decide, by decide, by omega⟩, _, _, rfl, rfl, nz1, _, _, rfl, rfl, nz2, _, rfl, _, _, rfl, rfl, (by omega), ?_⟩
    exact q _ _ (Int.fmod_nonneg_of_pos _ hm) (Int.fmod_lt_of_pos _ hm) sm
end

def spDraw (K : PySem.W.Frag) : Sp := fun vs H Q _ => ∃ (a st : Addr) (ns : List Int) (n : Nat) (many : Int), vs = [.ref a, .ref st, .int many] ∧ En K a st ns n H ∧ n < 100000 ∧ 0 < many ∧ ∀ (i : Int) H', 0 ≤ i → i < many → Gx st H H' → En K a st ns (n + 1) H' → Q (.int i) H'
section
variable {P : Program} {w : World} {K : PySem.W.Frag} {mg : Str → Option Value} {base : Heap}
theorem ok_draw (T : Tx K mg w) : FnOk P w K mg base CX0 3 T.f__law_draw T.d__law_draw ["_law_script", "_law_state", "_law_many"] (spDraw K) := by
  have G_mixed : FnOk P w K mg base CX0 2 T.f__law_mixed T.d__law_mixed ["_law_script", "_law_k", "_law_many"] (spMixed K) := ok_mixed T
  refine T.F__law_draw.ok sc_draw (fun vs H Q E h => ?_) (fun cdv A outer s H vs Q E hr h => ?_)
  · obtain ⟨a, st, ns, n, many, rfl, _⟩ := h
    rfl
  · obtain ⟨a, st, ns, n, many, rfl, E, hn, hm, q⟩ := h
    refine ⟨_, (pss_cons (ps_expr (pe_bm PySem.F.plainAttrs_list PySem.F.slot_list_append PySem.F.type_list_append mt_append (pv 1) (pa_cons pe_int pa_nil)))
      (pss_one (ps_ret (pe_call G_mixed hr (by rfl) T.g__law_mixed T.F__law_mixed.kp T.b__law_mixed .nil pass0 (pa_cons (pv 0) (pa_cons (pe_callB call_len_seq (by rfl) T.z_len PySem.boot_len (pa_cons (pv 1) pa_nil)) (pa_cons (pv 2) pa_nil))))))), ?_⟩
    obtain ⟨zs, ez, hz⟩ := E.zs
    refine ⟨_, rfl, .inl ⟨rfl, _, SqL.of ez⟩, st, _, _, rfl, rfl, ez, Nat.lt_of_le_of_lt hz (Nat.lt_trans hn (by decide)), ?_⟩
    have g1 : Gx st H (upd H st (.lst (zs ++ [.int 0]))) := Gx.at_
    have E1 : En K a st ns (n + 1) (upd H st (.lst (zs ++ [.int 0]))) := E.next g1 ⟨_, upd_same, by rw [List.length_append, List.length_singleton]; omega⟩ (by omega)
    refine ⟨_, rfl, _, rfl, st, _, rfl, .inl (SqL.of upd_same), _, rfl, a, ns, (zs ++ [V.int 0]).length, many, rfl, E1.lst, fun p o hp => (E1.lay hp).lst, E1.len, ?_, hm, fun i H' h0 h1 sm => ?_⟩
    · rw [List.length_append, List.length_singleton]
      omega
    · exact q i H' h0 h1 (g1.trans (.of sm)) (E1.next (.of sm) ⟨_, sm _ _ upd_same, by rw [List.length_append, List.length_singleton]; omega⟩ (by omega))
end

/-! ### pick, from a tuple -/
def spPick (K : PySem.W.Frag) : Sp := fun vs H Q _ => ∃ (a st p : Addr) (ns : List Int) (n : Nat) (xs : List V), vs = [.ref a, .ref st, .ref p] ∧ En K a st ns n H ∧ n < 100000 ∧ SqT K H p xs ∧ xs ≠ [] ∧ ∀ (x : V) H', x ∈ xs → Gx st H H' → En K a st ns (n + 1) H' → Q x H'
section
variable {P : Program} {w : World} {K : PySem.W.Frag} {mg : Str → Option Value} {base : Heap}
theorem ok_pick (T : Tx K mg w) : FnOk P w K mg base CX0 4 T.f__law_pick T.d__law_pick ["_law_script", "_law_state", "_law_some"] (spPick K) := by
  have G_draw : FnOk P w K mg base CX0 3 T.f__law_draw T.d__law_draw ["_law_script", "_law_state", "_law_many"] (spDraw K) := ok_draw T
  refine T.F__law_pick.ok sc_pick (fun vs H Q E h => ?_) (fun cdv A outer s H vs Q E hr h => ?_)
  · obtain ⟨a, st, p, ns, n, xs, rfl, _⟩ := h
    rfl
  · obtain ⟨a, st, p, ns, n, xs, rfl, En, hn, hp, hx, q⟩ := h
    refine ⟨_, (pss_one (ps_ret (pe_ix ix_tup (pv 2) (pe_call G_draw hr (by rfl) T.g__law_draw T.F__law_draw.kp T.b__law_draw .nil pass0 (pa_cons (pv 0) (pa_cons (pv 1) (pa_cons (pe_callB call_len_seq (by rfl) T.z_len PySem.boot_len (pa_cons (pv 2) pa_nil)) pa_nil)))) (fun _ _ => rfl)))), ?_⟩
    have hpos : 0 < xs.length := List.length_pos_iff.mpr hx
    refine ⟨_, rfl, _, rfl, _, rfl, _, rfl, p, xs, rfl, .inr hp, a, st, ns, n, (xs.length : Int), rfl, En, hn, by omega, fun i H' h0 h1 g E' => ?_⟩
    have hp' : SqT K H' p xs := En.sqT g hp
    obtain ⟨j, rfl⟩ : ∃ j : Nat, i = (j : Int) := ⟨i.toNat, by omega⟩
    have hj : j < xs.length := by omega
    exact ⟨p, xs, (j : Int), xs[j], rfl, rfl, hp', atI_nat (List.getElem?_eq_getElem hj), q _ _ (List.getElem_mem hj) g E'⟩
end

/-! ### some_of, from a list of ints -/
def spSomeOf (K : PySem.W.Frag) : Sp := fun vs H Q _ => ∃ (a st p : Addr) (ns : List Int) (n c : Nat) (is : List Int), vs = [.ref a, .ref st, .ref p, .int (c : Int)] ∧ En K a st ns n H ∧ n + c < 100000 ∧ H p = some (.lst (is.map V.int)) ∧ is.Nodup ∧ is.length < 64 ∧
  ∀ (out : List Int) (r : Addr) H', out.Pairwise (· < ·) → (∀ i ∈ out, i ∈ is) → out.length = min c is.length → Gx st H H' → En K a st ns (n + c) H' → H' r = some (.tup (out.map V.int)) → Q (.ref r) H'
theorem lt_of_le {l : List Int} (h : l.Pairwise (· ≤ ·)) (nd : l.Nodup) : l.Pairwise (· < ·) := by
  induction l with
  | nil => exact .nil
  | cons x r ih =>
    rw [List.pairwise_cons] at h
    rw [List.nodup_cons] at nd
    refine List.pairwise_cons.mpr ⟨fun y hy => ?_, ih h.2 nd.2⟩
    have h1 := h.1 y hy
    have h2 : x ≠ y := fun e => nd.1 (e ▸ hy)
    omega
theorem erase_perm : ∀ {le : List Int} {k : Nat} (hk : k < le.length), (le[k] :: le.eraseIdx k).Perm le
  | [], _, hk => by simp at hk
  | x :: r, 0, _ => List.Perm.refl _
  | x :: r, k + 1, hk => by
    have hk2 : k < r.length := by simpa using hk
    have ih := erase_perm hk2
    simp only [List.getElem_cons_succ, List.eraseIdx_cons_succ]
    exact (List.Perm.swap x r[k] (r.eraseIdx k)).trans (List.Perm.cons x ih)
theorem perm_move {fi le is : List Int} {k : Nat} {y : Int} (h : (fi ++ le).Perm is) (e : le[k]? = some y) : ((fi ++ [y]) ++ le.eraseIdx k).Perm is := by
  refine List.Perm.trans ?_ h
  rw [List.append_assoc]
  refine List.Perm.append_left fi ?_
  have hk : k < le.length := (List.getElem?_eq_some_iff.mp e).1
  have ey : le[k] = y := (List.getElem?_eq_some_iff.mp e).2
  rw [← ey]
  exact erase_perm hk
theorem eraseIdx_map {α β : Type} (f : α → β) : ∀ (l : List α) (k : Nat), (l.map f).eraseIdx k = (l.eraseIdx k).map f
  | [], _ => rfl
  | _ :: _, 0 => rfl
  | x :: r, k + 1 => by
    show f x :: (r.map f).eraseIdx k = f x :: (r.eraseIdx k).map f
    rw [eraseIdx_map f r k]
section
variable {P : Program} {w : World} {K : PySem.W.Frag} {mg : Str → Option Value} {base : Heap}
theorem ok_some_of (T : Tx K mg w) : FnOk P w K mg base CX0 4 T.f__law_some_of T.d__law_some_of ["_law_script", "_law_state", "_law_some", "_law_count"] (spSomeOf K) := by
  have G_draw : FnOk P w K mg base CX0 3 T.f__law_draw T.d__law_draw ["_law_script", "_law_state", "_law_many"] (spDraw K) := ok_draw T
  refine T.F__law_some_of.ok sc_some_of (fun vs H Q E h => ?_) (fun cdv A outer s H vs Q E hr h => ?_)
  · obtain ⟨a, st, p, ns, n, c, is, rfl, _⟩ := h
    rfl
  · obtain ⟨a, st, p, ns, n, c, is, rfl, EN, hn, hp, hnd, h64, q⟩ := h
    refine ⟨_, (pss_cons (ps_par (i := 4) (j := 5) (by rfl) sc_some_of.nd rfl rfl (by decide) rfl rfl (pa_cons (pe_callTy call_list_of (by rfl) T.z_list (by decide +kernel) (pa_cons (pv 2) pa_nil)) (pa_cons (pe_lst pa_nil) pa_nil)) (by rfl))
      (pss_cons (ps_while PassesOwn.never (PW.pt (pw_and (pt_cmpR (op_neD hr.units) (pv 4) (pe_lst pa_nil) (nomark _)) (pw_and1 (pt_cmpR op_lt (pe_callB call_len_seq (by rfl) T.z_len PySem.boot_len (pa_cons (pv 5) pa_nil)) (pv 3) (nomark _)))))
        (pss_one (ps_expr (pe_bm PySem.F.plainAttrs_list PySem.F.slot_list_append PySem.F.type_list_append mt_append (pv 5) (pa_cons (pe_bm PySem.F.plainAttrs_list PySem.F.slot_list_pop PySem.F.type_list_pop mt_popAt (pv 4) (pa_cons (pe_call G_draw hr (by rfl) T.g__law_draw T.F__law_draw.kp T.b__law_draw .nil pass0 (pa_cons (pv 0) (pa_cons (pv 1) (pa_cons (pe_callB call_len_seq (by rfl) T.z_len PySem.boot_len (pa_cons (pv 4) pa_nil)) pa_nil)))) pa_nil)) pa_nil)))))
      (pss_one (ps_ret (pe_callTy call_tuple_of (by rfl) T.z_tuple (by decide +kernel) (pa_cons (pe_callB cr_sorted (by rfl) T.z_sorted (by decide +kernel) (pa_cons (pv 5) pa_nil)) pa_nil)))))), ?_⟩
    have hmap : ∀ l : List Int, (l.map V.int).length = l.length := fun l => List.length_map ..
    -- left, found = list(some), []
    refine ⟨_, rfl, p, _, rfl, .inl (SqL.of hp), fun l hl => ⟨Nat.zero_le _, fun f hf => ⟨_, _, rfl, ?_⟩⟩⟩
    have nfl : f ≠ l := fun e => by rw [e, upd_same] at hf; cases hf
    have hf0 : H f = none := by rw [upd_ne nfl] at hf; exact hf
    have E1 := (EN.lay (o := .lst (is.map V.int)) hl).lay (o := .lst []) hf
    have nls : l ≠ st := EN.st_ne hl
    have nfs : f ≠ st := EN.st_ne hf0
    refine ⟨fun m σ H' => ∃ (fi le : List Int), σ = [some (.ref a), some (.ref st), some (.ref p), some (.int (c : Int)), some (.ref l), some (.ref f)] ∧ m = le.length ∧ Gx st H H' ∧ En K a st ns (n + fi.length) H' ∧ H' l = some (.lst (le.map V.int)) ∧ H' f = some (.lst (fi.map V.int)) ∧ (fi ++ le).Perm is ∧ fi.length ≤ c,
      ⟨_, [], is, rfl, rfl, (Gx.new hl).trans (Gx.new hf), E1, by rw [upd_ne nfl.symm, upd_same], by rw [upd_same]; rfl, List.Perm.refl _, Nat.zero_le _⟩, ?_⟩
    rintro m σ H' ⟨fi, le, rfl, rfl, g, E2, eL, eF, hP, hc⟩
    -- left != []
    refine ⟨_, rfl, Nat.zero_le _, fun t ht => ⟨.list (le.map PyData.int), .list [], ?_, .lst (.inl (.inl upd_same)) .nil, shaped_ints le, shaped_nil, _, rfl, ?_⟩⟩
    · exact .lst ((same_new ht).seq (SqL.of eL)) (DpAll.ints le)
    have ntl : l ≠ t := ne_of_none eL ht
    have ntf : f ≠ t := ne_of_none eF ht
    have eL1 : (upd H' t (.lst [])) l = some (.lst (le.map V.int)) := by rw [upd_ne ntl]; exact eL
    have eF1 : (upd H' t (.lst [])) f = some (.lst (fi.map V.int)) := by rw [upd_ne ntf]; exact eF
    have g1 : Gx st H (upd H' t (.lst [])) := g.trans (Gx.new ht)
    have E3 : En K a st ns (n + fi.length) (upd H' t (.lst [])) := E2.lay ht
    rw [eqv_nil]
    have done : fi.length = min c is.length → tRet (tCB (fun xs H Q => ∃ p ys, xs = [V.ref p] ∧ ((SqL K H p ys ∧ ∀ l, H l = none → Q (.ref l) (upd H l (.tup ys))) ∨ (SqT K H p ys ∧ Q (.ref p) H))) (tCons (tCB (rSorted K) (tCons (tVar 5) tNil)) tNil)) { nx := fun _ H' => Q .non H', rt := Q } [some (.ref a), some (.ref st), some (.ref p), some (.int (c : Int)), some (.ref l), some (.ref f)] (upd H' t (.lst [])) := fun hlen => by
      have hP2 := hP.length_eq
      rw [List.length_append] at hP2
      refine ⟨_, rfl, f, fi, rfl, SqL.of eF1, by omega, fun out r1 pm pw hr1 => ⟨r1, _, rfl, .inl ⟨SqL.of upd_same, fun r hr2 => ?_⟩⟩⟩
      have ndf : fi.Nodup := by
        have := hP.nodup_iff.mpr hnd
        exact (List.nodup_append.mp this).1
      have ndo : out.Nodup := pm.nodup_iff.mpr ndf
      refine q out r _ (lt_of_le pw ndo) (fun i hi => hP.mem_iff.mp (List.mem_append_left _ (pm.mem_iff.mp hi))) (by rw [pm.length_eq]; exact hlen) ((g1.trans (Gx.new hr1)).trans (Gx.new hr2)) (((E3.lay hr1).lay hr2).more (by omega) (by omega)) upd_same
    cases le with
    | nil =>
      have hP2 := hP.length_eq
      rw [List.append_nil] at hP2
      refine done ?_
      omega
    | cons y0 r0 =>
      refine ⟨_, rfl, f, _, rfl, .inl (SqL.of eF1), _, rfl, _, _, rfl, rfl, _, rfl, ?_⟩
      have hmf := hmap fi
      by_cases hlt : fi.length < c
      · have e1 : decide (((fi.map V.int).length : Int) < (c : Int)) = true := decide_eq_true (by omega)
        rw [e1]
        refine ⟨fun σ' H'' => ∃ (fi' le' : List Int), σ' = [some (.ref a), some (.ref st), some (.ref p), some (.int (c : Int)), some (.ref l), some (.ref f)] ∧ le'.length + 1 = (y0 :: r0).length ∧ Gx st H H'' ∧ En K a st ns (n + fi'.length) H'' ∧ H'' l = some (.lst (le'.map V.int)) ∧ H'' f = some (.lst (fi'.map V.int)) ∧ (fi' ++ le').Perm is ∧ fi'.length ≤ c,
          fun σ' H'' ⟨fi', le', e1, e2, r⟩ => ⟨le'.length, by omega, fi', le', e1, rfl, r⟩, ?_⟩
        -- found.append(left.pop(draw(..)))
        have hml := hmap (y0 :: r0)
        have hPl := hP.length_eq
        rw [List.length_append] at hPl
        refine ⟨_, rfl, .inl ⟨rfl, _, SqL.of eF1⟩, _, rfl, .inl ⟨rfl, _, SqL.of eL1⟩, _, rfl, _, rfl, _, rfl, l, _, rfl, .inl (SqL.of eL1), a, st, ns, n + fi.length, _, rfl, E3, by omega, by rw [hml, List.length_cons]; omega, fun i H2 h0 h1 g2 E4 => ?_⟩
        obtain ⟨j, rfl⟩ : ∃ j : Nat, i = (j : Int) := ⟨i.toNat, by omega⟩
        have hj : j < (y0 :: r0).length := by omega
        have eL2 : H2 l = some (.lst ((y0 :: r0).map V.int)) := g2 l _ nls eL1
        have eF2 : H2 f = some (.lst (fi.map V.int)) := g2 f _ nfs eF1
        refine ⟨l, _, (j : Int), j, .int ((y0 :: r0)[j]), rfl, rfl, eL2, by omega, by omega, ?_, ?_, ?_⟩
        · unfold seqIndex?
          rw [hml]
          simp only [show ¬ ((j : Int) < 0) by omega, if_false]
          rw [if_pos (by simp only [Bool.and_eq_true, decide_eq_true_eq]; omega)]
          simp
        · rw [List.getElem?_map, List.getElem?_eq_getElem hj]
          rfl
        · have eF3 : (upd H2 l (.lst (((y0 :: r0).map V.int).eraseIdx j))) f = some (.lst (fi.map V.int)) := by rw [upd_ne nfl]; exact eF2
          refine ⟨f, _, _, rfl, rfl, eF3, by rw [hmf]; exact Nat.lt_of_lt_of_le hlt (Nat.le_of_lt (Nat.lt_trans (show c < 100000 by omega) (by decide))), ?_⟩
          have hey : (y0 :: r0)[j]? = some (y0 :: r0)[j] := List.getElem?_eq_getElem hj
          refine ⟨fi ++ [(y0 :: r0)[j]], (y0 :: r0).eraseIdx j, rfl, ?_, ?_, ?_, ?_, ?_, perm_move hP hey, ?_⟩
          · rw [List.length_eraseIdx_of_lt hj, List.length_cons]
            omega
          · exact ((g1.trans g2).mut hl).mut hf0
          · have hl1 : (n + (fi ++ [(y0 :: r0)[j]]).length) = n + fi.length + 1 := by rw [List.length_append, List.length_singleton]; omega
            rw [hl1]
            obtain ⟨zs, ez, hz⟩ := E4.zs
            exact EN.next (((g1.trans g2).mut hl).mut hf0) ⟨zs, by rw [upd_ne nfs.symm, upd_ne nls.symm]; exact ez, hz⟩ E4.small
          · rw [upd_ne nfl.symm, upd_same, eraseIdx_map]
          · rw [upd_same, List.map_append]
            rfl
          · rw [List.length_append, List.length_singleton]
            omega
      · have e1 : decide (((fi.map V.int).length : Int) < (c : Int)) = false := decide_eq_false (by omega)
        rw [e1]
        have hP2 := hP.length_eq
        rw [List.length_append] at hP2
        refine done ?_
        omega
end

/-! ### is_number, is_tuple -/
def spNum (K : PySem.W.Frag) : Sp := fun vs H Q _ => ∃ (v : V) (d : PyData) (lo hi : Int), vs = [v, .int lo, .int hi] ∧ Dp K H v d ∧ Q (.bl (numD d lo hi)) H
section
variable {P : Program} {w : World} {K : PySem.W.Frag} {mg : Str → Option Value} {base : Heap}
theorem ok_is_number (T : Tx K mg w) : FnOk P w K mg base CX0 1 T.f_is_number T.d_is_number ["value", "least", "most"] (spNum K) := by
  refine T.F_is_number.ok sc_is_number (fun vs H Q E h => ?_) (fun cdv A outer s H vs Q E hr h => ?_)
  · obtain ⟨v, d, lo, hi, rfl, _⟩ := h
    rfl
  · obtain ⟨v, d, lo, hi, rfl, hd, q⟩ := h
    refine ⟨_, (pss_one (ps_ret (pe_and (pe_callB call_isi (by rfl) T.z_isinstance (by decide +kernel) (pa_cons (pv 0) (pa_cons (pe_bltn (v := .ty "int") (by rfl) T.z_int (by decide +kernel) rfl) pa_nil))) (pe_and (pe_not (pe_callB call_isi (by rfl) T.z_isinstance (by decide +kernel) (pa_cons (pv 0) (pa_cons (pe_bltn (v := .ty "bool") (by rfl) T.z_bool (by decide +kernel) rfl) pa_nil)))) (pe_one (pe_chain op_le op_le (pv 1) (pv 0) (pv 2))))))), ?_⟩
    refine ⟨_, rfl, v, .ty "int", .type (tyD d), .type "int", isInt d, rfl, .ty _, dp_ty hd, kit_int K d, isInt d, rfl, ite2 (fun e => ?_) (fun e => ?_)⟩
    · refine ⟨_, rfl, v, .ty "bool", .type (tyD d), .type "bool", isBool d, rfl, .ty _, dp_ty hd, kit_bool K d, _, rfl, _, rfl, ite2 (fun e2 => ?_) (fun e2 => ?_)⟩
      · cases hd with
        | int i =>
          refine ⟨_, rfl, _, rfl, _, _, rfl, rfl, _, rfl, ite2 (fun e3 => ?_) (fun e3 => ?_)⟩
          · refine ⟨_, rfl, _, _, rfl, rfl, ?_⟩
            have e4 : numD (.int i) lo hi = decide (i ≤ hi) := by
              show (decide (lo ≤ i) && decide (i ≤ hi)) = _
              rw [e3, Bool.true_and]
            rw [e4] at q
            exact q
          · have e4 : numD (.int i) lo hi = false := by
              show (decide (lo ≤ i) && decide (i ≤ hi)) = _
              rw [(Bool.not_eq_true _).mp e3, Bool.false_and]
            rw [e4] at q
            exact q
        | bl b => cases e2
        | non => cases e
        | str x => cases e
        | lst _ _ => cases e
        | tup _ _ => cases e
      · cases hd with
        | bl b => exact q
        | int i => exact absurd rfl e2
        | non => cases e
        | str x => cases e
        | lst _ _ => cases e
        | tup _ _ => cases e
    · cases hd with
      | bl b => exact absurd rfl e
      | int i => exact absurd rfl e
      | non => exact q
      | str x => exact q
      | lst _ _ => exact q
      | tup _ _ => exact q
def spTupD (K : PySem.W.Frag) : Sp := fun vs H Q _ => ∃ (v : V) (d : PyData) (lo hi : Int), vs = [v, .int lo, .int hi] ∧ Dp K H v d ∧ Q (.bl (tupD d lo hi)) H
theorem ok_is_tuple (T : Tx K mg w) : FnOk P w K mg base CX0 1 T.f_is_tuple T.d_is_tuple ["value", "least", "most"] (spTupD K) := by
  refine T.F_is_tuple.ok sc_is_tuple (fun vs H Q E h => ?_) (fun cdv A outer s H vs Q E hr h => ?_)
  · obtain ⟨v, d, lo, hi, rfl, _⟩ := h
    rfl
  · obtain ⟨v, d, lo, hi, rfl, hd, q⟩ := h
    refine ⟨_, (pss_one (ps_ret (pe_and (pe_callB call_isi (by rfl) T.z_isinstance (by decide +kernel) (pa_cons (pv 0) (pa_cons (pe_bltn (v := .ty "tuple") (by rfl) T.z_tuple (by decide +kernel) rfl) pa_nil))) (pe_one (pe_chain op_le op_le (pv 1) (pe_callB call_len_seq (by rfl) T.z_len PySem.boot_len (pa_cons (pv 0) pa_nil)) (pv 2)))))), ?_⟩
    refine ⟨_, rfl, v, .ty "tuple", .type (tyD d), .type "tuple", isTup d, rfl, .ty _, dp_ty hd, kit_tup K d, isTup d, rfl, ite2 (fun e => ?_) (fun e => ?_)⟩
    · cases hd with
      | tup hs ha =>
        rename_i a xs ds
        have hl : xs.length = ds.length := DpAll.len ha
        refine ⟨_, rfl, _, rfl, a, xs, rfl, .inr hs, _, _, rfl, rfl, _, rfl, ite2 (fun e3 => ?_) (fun e3 => ?_)⟩
        · refine ⟨_, rfl, _, _, rfl, rfl, ?_⟩
          have e4 : tupD (.tuple ds) lo hi = decide ((xs.length : Int) ≤ hi) := by
            show (decide (lo ≤ (ds.length : Int)) && decide ((ds.length : Int) ≤ hi)) = _
            rw [hl] at e3
            rw [e3, Bool.true_and, hl]
          rw [e4] at q
          exact q
        · have e4 : tupD (.tuple ds) lo hi = false := by
            show (decide (lo ≤ (ds.length : Int)) && decide ((ds.length : Int) ≤ hi)) = _
            rw [hl] at e3
            rw [(Bool.not_eq_true _).mp e3, Bool.false_and]
          rw [e4] at q
          exact q
      | bl b => cases e
      | int i => cases e
      | non => cases e
      | str x => cases e
      | lst _ _ => cases e
    · cases hd with
      | tup hs ha => exact absurd rfl e
      | bl b => exact q
      | int i => exact q
      | non => exact q
      | str x => exact q
      | lst _ _ => exact q
end

/-! ### is_text -/
def spText (K : PySem.W.Frag) : Sp := fun vs H Q _ => ∃ (v : V) (d : PyData) (n : Int), vs = [v, .int n] ∧ Dp K H v d ∧ smD d = true ∧ Q (.bl (textD d n)) H
theorem one_lt (c x : Nat) : decide (([c] : List Nat) < [x]) = decide (c < x) := by
  apply decide_eq_decide.mpr
  constructor
  · intro h
    cases h with
    | rel h => exact h
    | cons h => exact absurd h (by intro z; cases z)
  · intro h
    exact List.Lex.rel h
theorem all_take {α : Type} {p : α → Bool} {xs : List α} {i : Nat} {x : α} (h : (xs.take i).all p = true) (e : xs[i]? = some x) (hp : p x = true) : (xs.take (i + 1)).all p = true := by
  rw [List.take_add_one, e, List.all_append, h]
  show (true && ([x].all p)) = true
  rw [List.all_cons, hp]
  rfl
theorem all_not {α : Type} {p : α → Bool} {xs : List α} {i : Nat} {x : α} (e : xs[i]? = some x) (hp : p x = false) : xs.all p = false := by
  rw [List.all_eq_false]
  exact ⟨x, List.mem_of_getElem? e, by rw [hp]; exact Bool.false_ne_true⟩
section
variable {P : Program} {w : World} {K : PySem.W.Frag} {mg : Str → Option Value} {base : Heap}
theorem ok_is_text (T : Tx K mg w) : FnOk P w K mg base CX0 1 T.f_is_text T.d_is_text ["value", "longest"] (spText K) := by
  refine T.F_is_text.ok sc_is_text (fun vs H Q E h => ?_) (fun cdv A outer s H vs Q E hr h => ?_)
  · obtain ⟨v, d, n, rfl, _⟩ := h
    rfl
  · obtain ⟨v, d, n, rfl, hd, hs, q⟩ := h
    refine ⟨_, (pss_cons (ps_if (PW.pt (pw_or (pt_not (pt_val (pe_callB call_isi (by rfl) T.z_isinstance (by decide +kernel) (pa_cons (pv 0) (pa_cons (pe_bltn (v := .ty "str") (by rfl) T.z_str (by decide +kernel) rfl) pa_nil))))) (pw_or1 (pt_cmpR op_gt (pe_callB call_len_str (by rfl) T.z_len PySem.boot_len (pa_cons (pv 0) pa_nil)) (pv 1) (nomark _))))) (pss_one (ps_ret pe_bl)) pss_nil)
      (pss_cons (ps_for PassesOwn.never rfl (pi_str (pv 0)) (pg_name (i := 2) sc_is_text.nd rfl (Or.inl rfl))
        (pss_one (ps_if (PW.pt (pw_or (pt_cmpR op_lt_str (pv 2) pe_str (nomark _)) (pw_or1 (pt_cmpR op_gt_str (pv 2) pe_str (nomark _))))) (pss_one (ps_ret pe_bl)) pss_nil)))
      (pss_one (ps_ret pe_bl)))), ?_⟩
    refine ⟨_, rfl, v, .ty "str", .type (tyD d), .type "str", isStr d, rfl, .ty _, dp_ty hd, kit_str K d, isStr d, rfl, ?_⟩
    cases hd with
    | non => exact q
    | bl b => exact q
    | int i => exact q
    | lst _ _ => exact q
    | tup _ _ => exact q
    | str z =>
      have hz : z.length ≤ 100000 := of_decide_eq_true hs
      have ez : z.length = z.cps.toList.length := by simp [Str.length]
      have ed : textD (.str z) n = (decide ((z.length : Int) ≤ n) && z.cps.toList.all letterOk) := rfl
      refine iteF ⟨_, rfl, z, rfl, Nat.le_trans hz (by decide), _, rfl, _, _, rfl, rfl, _, rfl, ite2 (fun e => ?_) (fun e => ?_)⟩
      · have e1 : decide ((z.length : Int) ≤ n) = false := by
          have := of_decide_eq_true e
          exact decide_eq_false (by omega)
        rw [ed, e1, Bool.false_and] at q
        exact q
      · have e1 : decide ((z.length : Int) ≤ n) = true := by
          apply decide_eq_true
          have h2 : ¬ n < (z.length : Int) := fun h => e (decide_eq_true h)
          omega
        rw [ed, e1, Bool.true_and] at q
        -- the loop
        refine ⟨_, rfl, z, rfl, fun i m σ H' => H' = H ∧ i + m = z.cps.size ∧ (z.cps.toList.take i).all letterOk = true ∧ ∃ u, σ = [some (.str z), some (.int n), u], ⟨_, rfl, Nat.zero_add _, rfl, _, rfl⟩, ?_⟩
        rintro i m σ H' ⟨rfl, hi, hp, u, rfl⟩
        by_cases hlt : i < z.cps.size
        · refine .inr ⟨hlt, fun σ' H'' => H'' = H' ∧ (i + 1) + (m - 1) = z.cps.size ∧ (z.cps.toList.take (i + 1)).all letterOk = true ∧ ∃ u, σ' = [some (.str z), some (.int n), u], fun σ' H'' hw => ⟨m - 1, by omega, hw⟩, ?_⟩
          rintro x H'' ⟨rfl, c, ec, rfl⟩
          have ec' : z.cps.toList[i]? = some c := by rw [Array.getElem?_toList]; exact ec
          refine ⟨_, rfl, _, _, rfl, rfl, _, rfl, ite2 (fun e2 => ?_) (fun e2 => ?_)⟩
          · have h2 : decide (([c] : List Nat) < [97]) = true := e2
            rw [one_lt] at h2
            rw [all_not ec' (show letterOk c = false by unfold letterOk; have := of_decide_eq_true h2; rw [decide_eq_false (by omega)]; rfl)] at q
            exact q
          · have h2 : ¬ decide (([c] : List Nat) < [97]) = true := e2
            rw [one_lt] at h2
            have h3 : 97 ≤ c := by
              rw [decide_eq_true_iff] at h2
              omega
            refine ⟨_, rfl, _, _, rfl, rfl, _, rfl, ite2 (fun e4 => ?_) (fun e4 => ?_)⟩
            · have h4 : decide (([122] : List Nat) < [c]) = true := e4
              rw [one_lt] at h4
              rw [all_not ec' (show letterOk c = false by unfold letterOk; have := of_decide_eq_true h4; rw [decide_eq_false (show ¬ c ≤ 122 by omega), Bool.and_false])] at q
              exact q
            · have h4 : ¬ decide (([122] : List Nat) < [c]) = true := e4
              rw [one_lt, decide_eq_true_iff] at h4
              exact ⟨rfl, by omega, all_take hp ec' (by unfold letterOk; rw [decide_eq_true h3, decide_eq_true (show c ≤ 122 by omega)]; rfl), _, rfl⟩
        · refine .inl ⟨by show z.cps.size ≤ i; omega, ?_⟩
          have ei : z.cps.toList.take i = z.cps.toList := List.take_of_length_le (by rw [Array.length_toList]; omega)
          rw [ei] at hp
          rw [hp] at q
          exact q
end

/-! ### is_ascending -/
def spAsc (K : PySem.W.Frag) : Sp := fun vs H Q _ => ∃ (v : V) (ds : List PyData), vs = [v] ∧ Dp K H v (.tuple ds) ∧ ds.length ≤ 100000 ∧ (∀ x ∈ ds, ∀ y ∈ ds, cmpOk x y) ∧ Q (.bl (ascD ds)) H
section
variable {P : Program} {w : World} {K : PySem.W.Frag} {mg : Str → Option Value} {base : Heap}
theorem ok_is_ascending (T : Tx K mg w) : FnOk P w K mg base CX0 1 T.f_is_ascending T.d_is_ascending ["values"] (spAsc K) := by
  refine T.F_is_ascending.ok sc_is_ascending (fun vs H Q E h => ?_) (fun cdv A outer s H vs Q E hr h => ?_)
  · obtain ⟨v, ds, rfl, _⟩ := h
    rfl
  · obtain ⟨v, ds, rfl, hd, hl, hc, q⟩ := h
    refine ⟨_, (pss_cons (ps_for PassesOwn.never rfl (pi_range2 (by rfl) T.z_range (pa_cons pe_int (pa_cons (pe_callB call_len_seq (by rfl) T.z_len PySem.boot_len (pa_cons (pv 0) pa_nil)) pa_nil))) (pg_name (i := 1) sc_is_ascending.nd rfl (Or.inl rfl))
        (pss_one (ps_if (pt_cmpR op_geV (pe_ix ix_tup (pv 0) (pe_op op_sub (pv 1) pe_int) (fun _ _ => rfl)) (pe_ix ix_tup (pv 0) (pv 1) (fun _ _ => rfl)) (nomark _)) (pss_one (ps_ret pe_bl)) pss_nil)))
      (pss_one (ps_ret pe_bl))), ?_⟩
    cases hd with
    | tup hs ha =>
      rename_i a xs
      have hlen : xs.length = ds.length := DpAll.len ha
      refine ⟨_, rfl, a, xs, rfl, .inr hs, 1, _, rfl, ⟨by decide, by decide, by omega, by omega⟩, ?_⟩
      refine for_range (fun i σ H' => H' = H ∧ (∀ (j : Nat) (x y : PyData), j < i → ds[j]? = some x → ds[j + 1]? = some y → ltD x y = true) ∧ ∃ u, σ = [some (.ref a), u]) ⟨rfl, fun j x y h => absurd h (Nat.not_lt_zero _), _, rfl⟩ ?_ ?_
      · rintro i σ H' hi ⟨rfl, hp, u, rfl⟩
        have hi1 : i + 1 < xs.length := by omega
        have g0 : xs[i]? = some xs[i] := List.getElem?_eq_getElem (by omega)
        have g1 : xs[i + 1]? = some xs[i + 1] := List.getElem?_eq_getElem hi1
        obtain ⟨d0, e0, k0⟩ := DpAll.get ha g0
        obtain ⟨d1, e1, k1⟩ := DpAll.get ha g1
        have a0 : atI xs (1 + (i : Int) - 1) = some xs[i] := by
          rw [show (1 + (i : Int) - 1) = ((i : Nat) : Int) by omega]
          exact atI_nat g0
        have a1 : atI xs (1 + (i : Int)) = some xs[i + 1] := by
          rw [show (1 + (i : Int)) = ((i + 1 : Nat) : Int) by omega]
          exact atI_nat g1
        refine ⟨_, rfl, _, rfl, _, _, rfl, rfl, a, xs, _, _, rfl, rfl, hs, a0, _, rfl, _, rfl, a, xs, _, _, rfl, rfl, hs, a1, d0, d1, k0, k1, hc d0 (List.mem_of_getElem? e0) d1 (List.mem_of_getElem? e1), _, rfl, ite2 (fun e => ?_) (fun e => ?_)⟩
        · have e2 : ltD d0 d1 = false := by
            cases z : ltD d0 d1 with
            | false => rfl
            | true => rw [z] at e; cases e
          rw [asc_not e0 e1 e2] at q
          exact q
        · have e2 : ltD d0 d1 = true := by
            cases z : ltD d0 d1 with
            | true => rfl
            | false => rw [z] at e; exact absurd rfl e
          refine ⟨rfl, fun j x y hj ex ey => ?_, _, rfl⟩
          by_cases h : j < i
          · exact hp j x y h ex ey
          · have ej : j = i := by omega
            subst ej
            rw [e0] at ex
            rw [e1] at ey
            cases ex
            cases ey
            exact e2
      · rintro σ H' ⟨rfl, hp, u, rfl⟩
        have e : ascD ds = true := asc_of fun j x y ex ey => hp j x y (by
          have := (List.getElem?_eq_some_iff.mp ey).1
          omega) ex ey
        rw [e] at q
        exact q
end

/-! ### is_thing, are_things -/
def spThing (K : PySem.W.Frag) : Sp := fun vs H Q _ => ∃ (v : V) (d : PyData), vs = [v] ∧ Dp K H v d ∧ smD d = true ∧ Q (.bl (thingD d)) H
theorem tup_of {d : PyData} {lo hi : Int} (h : tupD d lo hi = true) : ∃ ds, d = .tuple ds ∧ lo ≤ (ds.length : Int) ∧ (ds.length : Int) ≤ hi := by
  cases d with
  | tuple ds =>
    have h2 : (decide (lo ≤ (ds.length : Int)) && decide ((ds.length : Int) ≤ hi)) = true := h
    rw [Bool.and_eq_true] at h2
    exact ⟨ds, rfl, of_decide_eq_true h2.1, of_decide_eq_true h2.2⟩
  | _ => cases h
theorem text_str {d : PyData} {n : Int} (h : textD d n = true) : ∃ z, d = .str z := by
  cases d with
  | str z => exact ⟨z, rfl⟩
  | _ => cases h
theorem num_int {d : PyData} {lo hi : Int} (h : numD d lo hi = true) : ∃ i, d = .int i ∧ lo ≤ i ∧ i ≤ hi := by
  cases d with
  | int i =>
    have h2 : (decide (lo ≤ i) && decide (i ≤ hi)) = true := h
    rw [Bool.and_eq_true] at h2
    exact ⟨i, rfl, of_decide_eq_true h2.1, of_decide_eq_true h2.2⟩
  | _ => cases h
section
variable {P : Program} {w : World} {K : PySem.W.Frag} {mg : Str → Option Value} {base : Heap}
theorem ok_is_thing (T : Tx K mg w) : FnOk P w K mg base CX0 2 T.f_is_thing T.d_is_thing ["value"] (spThing K) := by
  have G_is_tuple : FnOk P w K mg base CX0 1 T.f_is_tuple T.d_is_tuple ["value", "least", "most"] (spTupD K) := ok_is_tuple T
  have G_is_text : FnOk P w K mg base CX0 1 T.f_is_text T.d_is_text ["value", "longest"] (spText K) := ok_is_text T
  have G_is_ascending : FnOk P w K mg base CX0 1 T.f_is_ascending T.d_is_ascending ["values"] (spAsc K) := ok_is_ascending T
  refine T.F_is_thing.ok sc_is_thing (fun vs H Q E h => ?_) (fun cdv A outer s H vs Q E hr h => ?_)
  · obtain ⟨v, d, rfl, _⟩ := h
    rfl
  · obtain ⟨v, d, rfl, hd, hs, q⟩ := h
    refine ⟨_, (pss_cons (ps_if (pt_not (pt_val (pe_call G_is_tuple hr (by rfl) T.g_is_tuple T.F_is_tuple.kp T.b_is_tuple .nil pass0 (pa_cons (pv 0) (pa_cons pe_int (pa_cons (pe_glob (v := .int 4) (by rfl) T.g_MOST_TEXTS ⟨_, rfl⟩) pa_nil)))))) (pss_one (ps_ret pe_bl)) pss_nil)
      (pss_cons (ps_for PassesOwn.never rfl (pi_tup (pv 0)) (pg_name (i := 1) sc_is_thing.nd rfl (Or.inl rfl))
        (pss_one (ps_if (pt_not (pt_val (pe_call G_is_text hr (by rfl) T.g_is_text T.F_is_text.kp T.b_is_text .nil pass0 (pa_cons (pv 1) (pa_cons (pe_glob (v := .int 4) (by rfl) T.g_LONGEST_TEXT ⟨_, rfl⟩) pa_nil))))) (pss_one (ps_ret pe_bl)) pss_nil)))
      (pss_one (ps_ret (pe_call G_is_ascending hr (by rfl) T.g_is_ascending T.F_is_ascending.kp T.b_is_ascending .nil pass0 (pa_cons (pv 0) pa_nil)))))), ?_⟩
    refine ⟨_, rfl, v, d, 1, 4, rfl, hd, _, rfl, ?_⟩
    have eT : thingD d = (tupD d 1 4 && (seqD d).all (fun x => textD x 4) && ascD (seqD d)) := rfl
    cases et : tupD d 1 4 with
    | false =>
      rw [eT, et] at q
      exact q
    | true =>
      obtain ⟨ds, rfl, h1, h4⟩ := tup_of et
      rw [eT, et, Bool.true_and] at q
      cases hd with
      | tup hq ha =>
        rename_i a xs
        have hd : Dp K H (.ref a) (.tuple ds) := .tup hq ha
        have hlen : xs.length = ds.length := DpAll.len ha
        have hss : smDs ds = true := hs
        refine ⟨_, rfl, a, rfl, ⟨xs, hq⟩, for_tup (xs := xs) (fun i σ H' => H' = H ∧ (ds.take i).all (fun x => textD x 4) = true ∧ ∃ u, σ = [some (.ref a), u]) ⟨rfl, rfl, _, rfl⟩ (fun i σ H' _ h => by rw [h.1]; exact hq) ?_ ?_⟩
        · rintro i x σ H' ei ⟨rfl, hp, u, rfl⟩
          obtain ⟨dx, ex, kx⟩ := DpAll.get ha ei
          refine ⟨_, rfl, x, dx, 4, rfl, kx, smDs_get hss ex, _, rfl, ?_⟩
          cases ev : textD dx 4 with
          | false =>
            have z := all_not (p := fun x => textD x 4) ex ev
            have q2 : Q (.bl ((ds.all fun x => textD x 4) && ascD ds)) H' := q
            rw [z] at q2
            exact q2
          | true => exact ⟨rfl, all_take (p := fun x => textD x 4) hp ex ev, _, rfl⟩
        · rintro σ H' ⟨rfl, hp, u, rfl⟩
          rw [hlen, List.take_length] at hp
          have q2 : Q (.bl ((ds.all fun x => textD x 4) && ascD ds)) H' := q
          rw [hp, Bool.true_and] at q2
          refine ⟨_, rfl, _, ds, rfl, hd, by omega, fun x hx y hy => ?_, q2⟩
          obtain ⟨zx, rfl⟩ := text_str (List.all_eq_true.mp hp x hx)
          obtain ⟨zy, rfl⟩ := text_str (List.all_eq_true.mp hp y hy)
          exact trivial
def spThings (K : PySem.W.Frag) : Sp := fun vs H Q _ => ∃ (v : V) (d : PyData), vs = [v] ∧ Dp K H v d ∧ smD d = true ∧ Q (.bl (thingsD d)) H
theorem prodD_take {ds : List PyData} {i : Nat} {d : PyData} (e : ds[i]? = some d) : prodD (ds.take (i + 1)) = prodD (ds.take i) * (seqD d).length := by
  induction ds generalizing i with
  | nil => simp at e
  | cons x r ih =>
    cases i with
    | zero =>
      cases e
      simp only [List.take_succ_cons, List.take_zero, prodD, Nat.mul_one, Nat.one_mul]
    | succ i =>
      have e2 : r[i]? = some d := by simpa using e
      rw [List.take_succ_cons, prodD, ih e2, List.take_succ_cons, prodD, Nat.mul_assoc]
theorem thing_len {d : PyData} (h : thingD d = true) : ∃ ds, d = .tuple ds ∧ 1 ≤ ds.length ∧ ds.length ≤ 4 := by
  have h2 : (tupD d 1 4 && (seqD d).all (fun x => textD x 4) && ascD (seqD d)) = true := h
  rw [Bool.and_eq_true, Bool.and_eq_true] at h2
  obtain ⟨ds, rfl, a, b⟩ := tup_of h2.1.1
  exact ⟨ds, rfl, by omega, by omega⟩
theorem prodD_le : ∀ {ds : List PyData}, (ds.all thingD) = true → prodD ds ≤ 4 ^ ds.length
  | [], _ => Nat.le_refl 1
  | d :: r, h => by
    rw [List.all_cons, Bool.and_eq_true] at h
    obtain ⟨es, rfl, _, h4⟩ := thing_len h.1
    have ih := prodD_le h.2
    rw [prodD, List.length_cons, Nat.pow_succ, Nat.mul_comm]
    exact Nat.mul_le_mul ih h4
theorem ok_are_things (T : Tx K mg w) : FnOk P w K mg base CX0 3 T.f_are_things T.d_are_things ["value"] (spThings K) := by
  have G_is_tuple : FnOk P w K mg base CX0 1 T.f_is_tuple T.d_is_tuple ["value", "least", "most"] (spTupD K) := ok_is_tuple T
  have G_is_thing : FnOk P w K mg base CX0 2 T.f_is_thing T.d_is_thing ["value"] (spThing K) := ok_is_thing T
  refine T.F_are_things.ok sc_are_things (fun vs H Q E h => ?_) (fun cdv A outer s H vs Q E hr h => ?_)
  · obtain ⟨v, d, rfl, _⟩ := h
    rfl
  · obtain ⟨v, d, rfl, hd, hs, q⟩ := h
    refine ⟨_, (pss_cons (ps_if (pt_not (pt_val (pe_call G_is_tuple (hr.mono (by decide)) (by rfl) T.g_is_tuple T.F_is_tuple.kp T.b_is_tuple .nil pass0 (pa_cons (pv 0) (pa_cons pe_int (pa_cons (pe_glob (v := .int 5) (by rfl) T.g_MOST_THINGS ⟨_, rfl⟩) pa_nil)))))) (pss_one (ps_ret pe_bl)) pss_nil)
      (pss_cons (ps_set (i := 1) sc_are_things.nd rfl (Or.inl rfl) pe_int)
      (pss_cons (ps_for PassesOwn.never rfl (pi_tup (pv 0)) (pg_name (i := 2) sc_are_things.nd rfl (Or.inl rfl))
        (pss_cons (ps_if (pt_not (pt_val (pe_call G_is_thing hr (by rfl) T.g_is_thing T.F_is_thing.kp T.b_is_thing .nil pass0 (pa_cons (pv 2) pa_nil)))) (pss_one (ps_ret pe_bl)) pss_nil)
      (pss_one (ps_set (i := 1) sc_are_things.nd rfl (Or.inl rfl) (pe_op op_mul (pv 1) (pe_callB call_len_seq (by rfl) T.z_len PySem.boot_len (pa_cons (pv 2) pa_nil)))))))
      (pss_one (ps_ret (pe_cmpR op_le (pv 1) (pe_glob (v := .int 256) (by rfl) T.g_MOST_WORLDS ⟨_, rfl⟩) (nomark _))))))), ?_⟩
    refine ⟨_, rfl, v, d, 1, 5, rfl, hd, _, rfl, ?_⟩
    have eT : thingsD d = (tupD d 1 5 && (seqD d).all thingD && decide (prodD (seqD d) ≤ 256)) := rfl
    cases et : tupD d 1 5 with
    | false =>
      rw [eT, et] at q
      exact q
    | true =>
      obtain ⟨ds, rfl, h1, h5⟩ := tup_of et
      rw [eT, et, Bool.true_and] at q
      cases hd with
      | tup hq ha =>
        rename_i a xs
        have hlen : xs.length = ds.length := DpAll.len ha
        have hss : smDs ds = true := hs
        refine ⟨_, rfl, a, rfl, ⟨xs, hq⟩, for_tup (xs := xs) (fun i σ H' => H' = H ∧ (ds.take i).all thingD = true ∧ i ≤ 5 ∧ ∃ u, σ = [some (.ref a), some (.int (prodD (ds.take i) : Int)), u]) ⟨rfl, rfl, Nat.zero_le _, _, rfl⟩ (fun i σ H' _ h => by rw [h.1]; exact hq) ?_ ?_⟩
        · rintro i x σ H' ei ⟨rfl, hp, hi5, u, rfl⟩
          obtain ⟨dx, ex, kx⟩ := DpAll.get ha ei
          have hi : i < ds.length := (List.getElem?_eq_some_iff.mp ex).1
          refine ⟨_, rfl, x, dx, rfl, kx, smDs_get hss ex, _, rfl, ?_⟩
          cases ev : thingD dx with
          | false =>
            have z := all_not (p := thingD) ex ev
            have q2 : Q (.bl (ds.all thingD && decide (prodD ds ≤ 256))) H' := q
            rw [z] at q2
            exact q2
          | true =>
            obtain ⟨es, rfl, _, _⟩ := thing_len ev
            cases kx with
            | tup hx hxa =>
              rename_i b ys
              have hb : prodD (ds.take i) ≤ 4 ^ (ds.take i).length := prodD_le hp
              have hb2 : prodD (ds.take i) ≤ 4 ^ 5 := Nat.le_trans hb (Nat.pow_le_pow_right (by decide) (by rw [List.length_take]; omega))
              refine ⟨_, rfl, _, rfl, b, ys, rfl, .inr hx, _, _, rfl, rfl, .inl ⟨by omega, by omega⟩, rfl, all_take hp ex ev, by omega, some (.ref b), ?_⟩
              rw [prodD_take ex, DpAll.len hxa]
              rfl
        · rintro σ H' ⟨rfl, hp, _, u, rfl⟩
          rw [hlen, List.take_length] at hp ⊢
          have q2 : Q (.bl (ds.all thingD && decide (prodD ds ≤ 256))) H' := q
          rw [hp, Bool.true_and] at q2
          refine ⟨_, rfl, _, _, rfl, rfl, ?_⟩
          have e : decide ((prodD ds : Int) ≤ 256) = decide (prodD ds ≤ 256) := decide_eq_decide.mpr (by omega)
          show Q (.bl (decide ((prodD ds : Int) ≤ 256))) H'
          rw [e]
          exact q2
end

/-! ### is_reading, is_step, are_steps, is_made, is_recipe -/
def spReading (K : PySem.W.Frag) : Sp := fun vs H Q _ => ∃ (v : V) (d : PyData) (m s : Int), vs = [v, .int m, .int s] ∧ Dp K H v d ∧ Q (.bl (readingD d m s)) H
theorem two_of {K : PySem.W.Frag} {H : Hp} {xs : List V} {ds : List PyData} (h : DpAll K H xs ds) (e : ds.length = 2) : ∃ x y d f, xs = [x, y] ∧ ds = [d, f] ∧ Dp K H x d ∧ Dp K H y f := by
  match ds, e with
  | [d, f], _ =>
    cases h with
    | cons h1 h2 =>
      cases h2 with
      | cons h3 h4 =>
        cases h4
        exact ⟨_, _, d, f, rfl, rfl, h1, h3⟩
theorem three_of {K : PySem.W.Frag} {H : Hp} {xs : List V} {ds : List PyData} (h : DpAll K H xs ds) (e : ds.length = 3) : ∃ x y z d f g, xs = [x, y, z] ∧ ds = [d, f, g] ∧ Dp K H x d ∧ Dp K H y f ∧ Dp K H z g := by
  match ds, e with
  | [d, f, g], _ =>
    cases h with
    | cons h1 h2 =>
      cases h2 with
      | cons h3 h4 =>
        cases h4 with
        | cons h5 h6 =>
          cases h6
          exact ⟨_, _, _, d, f, g, rfl, rfl, h1, h3, h5⟩
theorem reading_none {d : PyData} {m s : Int} (h : tupD d 2 2 = false) : readingD d m s = false := by
  cases d with
  | tuple ds =>
    match ds with
    | [PyData.str w, x] => cases h
    | [] => rfl
    | [.none] => rfl
    | _ => first | rfl | (unfold readingD; split <;> first | rfl | (rename_i q; cases q; cases h))
  | _ => rfl
theorem str_eq (x y : Str) : decide ((V.str x) = (V.str y)) = decide (x = y) := decide_eq_decide.mpr ⟨fun h => V.str.inj h, fun h => by rw [h]⟩
section
variable {P : Program} {w : World} {K : PySem.W.Frag} {mg : Str → Option Value} {base : Heap}
theorem ok_is_reading (T : Tx K mg w) : FnOk P w K mg base CX0 2 T.f_is_reading T.d_is_reading ["value", "many_things", "step"] (spReading K) := by
  have G_is_tuple : FnOk P w K mg base CX0 1 T.f_is_tuple T.d_is_tuple ["value", "least", "most"] (spTupD K) := ok_is_tuple T
  have G_is_number : FnOk P w K mg base CX0 1 T.f_is_number T.d_is_number ["value", "least", "most"] (spNum K) := ok_is_number T
  refine T.F_is_reading.ok sc_is_reading (fun vs H Q E h => ?_) (fun cdv A outer s H vs Q E hr h => ?_)
  · obtain ⟨v, d, m, st, rfl, _⟩ := h
    rfl
  · obtain ⟨v, d, m, st, rfl, hd, q⟩ := h
    refine ⟨_, (pss_cons (ps_if (pt_not (pt_val (pe_call G_is_tuple hr (by rfl) T.g_is_tuple T.F_is_tuple.kp T.b_is_tuple .nil pass0 (pa_cons (pv 0) (pa_cons pe_int (pa_cons pe_int pa_nil)))))) (pss_one (ps_ret pe_bl)) pss_nil)
      (pss_cons (ps_asg (pv 0) (pg_tup rfl (pgs_cons (pg_name (i := 3) sc_is_reading.nd rfl (Or.inl rfl)) (pgs_cons (pg_name (i := 4) sc_is_reading.nd rfl (Or.inl rfl)) pgs_nil))))
      (pss_cons (ps_if (pt_not (pt_val (pe_callB call_isi (by rfl) T.z_isinstance (by decide +kernel) (pa_cons (pv 3) (pa_cons (pe_bltn (v := .ty "str") (by rfl) T.z_str (by decide +kernel) rfl) pa_nil))))) (pss_one (ps_ret pe_bl)) pss_nil)
      (pss_cons (ps_if (pt_cmpR op_eq (pv 3) pe_str (nomark _)) (pss_one (ps_ret (pe_call G_is_number hr (by rfl) T.g_is_number T.F_is_number.kp T.b_is_number .nil pass0 (pa_cons (pv 4) (pa_cons pe_int (pa_cons (pe_op op_sub (pv 1) pe_int) pa_nil)))))) pss_nil)
      (pss_one (ps_ret (pe_and (pe_cmpR op_eq (pv 3) pe_str (nomark _)) (pe_one (pe_call G_is_number hr (by rfl) T.g_is_number T.F_is_number.kp T.b_is_number .nil pass0 (pa_cons (pv 4) (pa_cons pe_int (pa_cons (pe_op op_sub (pv 2) pe_int) pa_nil)))))))))))), ?_⟩
    refine ⟨_, rfl, v, d, 2, 2, rfl, hd, _, rfl, ?_⟩
    cases et : tupD d 2 2 with
    | false =>
      rw [reading_none et] at q
      exact q
    | true =>
      obtain ⟨ds, rfl, h1, h5⟩ := tup_of et
      cases hd with
      | tup hq ha =>
        rename_i a xs
        obtain ⟨x, y, dx, dy, rfl, rfl, kx, ky⟩ := two_of ha (by omega)
        refine ⟨_, rfl, a, [x, y], rfl, hq, rfl, x, [y], rfl, y, [], rfl, rfl, ?_⟩
        refine ⟨_, rfl, x, .ty "str", .type (tyD dx), .type "str", isStr dx, rfl, .ty _, dp_ty kx, kit_str K dx, isStr dx, rfl, ?_⟩
        cases kx with
        | str z =>
          have e0 : readingD (.tuple [.str z, dy]) m st = if z = "thing" then numD dy 0 (m - 1) else decide (z = ("step" : Str)) && numD dy 0 (st - 1) := rfl
          refine ⟨_, rfl, rfl, _, rfl, ite2 (fun e => ?_) (fun e => ?_)⟩
          · rw [str_eq] at e
            rw [e0, if_pos (of_decide_eq_true e)] at q
            exact ⟨_, rfl, _, rfl, _, _, rfl, rfl, y, dy, 0, m - 1, rfl, ky, q⟩
          · rw [str_eq] at e
            rw [e0, if_neg (fun h => e (decide_eq_true h))] at q
            refine ⟨_, rfl, rfl, _, rfl, ite2 (fun e => ?_) (fun e => ?_)⟩
            · rw [str_eq] at e
              rw [e, Bool.true_and] at q
              exact ⟨_, rfl, _, rfl, _, _, rfl, rfl, y, dy, 0, st - 1, rfl, ky, q⟩
            · rw [str_eq] at e
              rw [(Bool.not_eq_true _).mp e, Bool.false_and] at q
              exact q
        | non => exact q
        | bl b => exact q
        | int i => exact q
        | lst _ _ => exact q
        | tup _ _ => exact q
def spStep (K : PySem.W.Frag) : Sp := fun vs H Q _ => ∃ (v : V) (d : PyData) (m s : Int), vs = [v, .int m, .int s] ∧ Dp K H v d ∧ Q (.bl (stepD d m s)) H
theorem step_none {d : PyData} {m s : Int} (h : tupD d 2 2 = false) : stepD d m s = false := by
  cases d with
  | tuple ds =>
    match ds with
    | [PyData.str w, x] => cases h
    | [] => rfl
    | [.none] => rfl
    | _ => first | rfl | (unfold stepD; split <;> first | rfl | (rename_i q; cases q; cases h))
  | _ => rfl
theorem ok_is_step (T : Tx K mg w) : FnOk P w K mg base CX0 3 T.f_is_step T.d_is_step ["value", "many_things", "step"] (spStep K) := by
  have G_is_tuple : FnOk P w K mg base CX0 1 T.f_is_tuple T.d_is_tuple ["value", "least", "most"] (spTupD K) := ok_is_tuple T
  have G_is_reading : FnOk P w K mg base CX0 2 T.f_is_reading T.d_is_reading ["value", "many_things", "step"] (spReading K) := ok_is_reading T
  refine T.F_is_step.ok sc_is_step (fun vs H Q E h => ?_) (fun cdv A outer s H vs Q E hr h => ?_)
  · obtain ⟨v, d, m, st, rfl, _⟩ := h
    rfl
  · obtain ⟨v, d, m, st, rfl, hd, q⟩ := h
    refine ⟨_, (pss_cons (ps_if (pt_not (pt_val (pe_call G_is_tuple (hr.mono (by decide)) (by rfl) T.g_is_tuple T.F_is_tuple.kp T.b_is_tuple .nil pass0 (pa_cons (pv 0) (pa_cons pe_int (pa_cons pe_int pa_nil)))))) (pss_one (ps_ret pe_bl)) pss_nil)
      (pss_cons (ps_asg (pv 0) (pg_tup rfl (pgs_cons (pg_name (i := 3) sc_is_step.nd rfl (Or.inl rfl)) (pgs_cons (pg_name (i := 4) sc_is_step.nd rfl (Or.inl rfl)) pgs_nil))))
      (pss_cons (ps_if (PW.pt (pw_or (pt_not (pt_val (pe_callB call_isi (by rfl) T.z_isinstance (by decide +kernel) (pa_cons (pv 3) (pa_cons (pe_bltn (v := .ty "str") (by rfl) T.z_str (by decide +kernel) rfl) pa_nil))))) (pw_or1 (pt_cmpR op_notInDm (pv 3) (pe_glob (v := .ref T.a_READINGS) (by rfl) T.g_READINGS rfl) (by rfl))))) (pss_one (ps_ret pe_bl)) pss_nil)
      (pss_cons (ps_if (pt_not (pt_val (pe_call G_is_tuple (hr.mono (by decide)) (by rfl) T.g_is_tuple T.F_is_tuple.kp T.b_is_tuple .nil pass0 (pa_cons (pv 4) (pa_cons (pe_ix ix_dm (pe_glob (v := .ref T.a_READINGS) (by rfl) T.g_READINGS rfl) (pv 3) (fun _ _ => rfl)) (pa_cons (pe_ix ix_dm (pe_glob (v := .ref T.a_READINGS) (by rfl) T.g_READINGS rfl) (pv 3) (fun _ _ => rfl)) pa_nil)))))) (pss_one (ps_ret pe_bl)) pss_nil)
      (pss_cons (ps_for PassesOwn.never rfl (pi_tup (pv 4)) (pg_name (i := 5) sc_is_step.nd rfl (Or.inl rfl))
        (pss_one (ps_if (pt_not (pt_val (pe_call G_is_reading hr (by rfl) T.g_is_reading T.F_is_reading.kp T.b_is_reading .nil pass0 (pa_cons (pv 5) (pa_cons (pv 1) (pa_cons (pv 2) pa_nil)))))) (pss_one (ps_ret pe_bl)) pss_nil)))
      (pss_one (ps_ret pe_bl))))))), ?_⟩
    refine ⟨_, rfl, v, d, 2, 2, rfl, hd, _, rfl, ?_⟩
    cases et : tupD d 2 2 with
    | false =>
      rw [step_none et] at q
      exact q
    | true =>
      obtain ⟨ds, rfl, h1, h5⟩ := tup_of et
      cases hd with
      | tup hq ha =>
        rename_i a xs
        obtain ⟨x, y, dx, dy, rfl, rfl, kx, ky⟩ := two_of ha (by omega)
        refine ⟨_, rfl, a, [x, y], rfl, hq, rfl, x, [y], rfl, y, [], rfl, rfl, ?_⟩
        refine ⟨_, rfl, x, .ty "str", .type (tyD dx), .type "str", isStr dx, rfl, .ty _, dp_ty kx, kit_str K dx, isStr dx, rfl, ?_⟩
        cases kx with
        | str z =>
          have e0 : stepD (.tuple [.str z, dy]) m st = match lookM mREADINGS' z with
            | some k => tupD dy k k && (seqD dy).all (fun x => readingD x m st)
            | none => false := rfl
          refine ⟨_, rfl, T.a_READINGS, z, mREADINGS, rfl, rfl, T.m_READINGS, _, rfl, ?_⟩
          have em : mREADINGS = mREADINGS' := rfl
          rw [em]
          cases el : lookM mREADINGS' z with
          | none =>
            rw [e0, el] at q
            exact q
          | some k =>
            rw [e0, el] at q
            have ix : ∀ Q' : VK, Q' (.int k) H → rIxDm K w (.ref T.a_READINGS) (.str z) H Q' := fun Q' h => ⟨_, z, mREADINGS, k, rfl, rfl, T.m_READINGS, el, h⟩
            refine ⟨_, rfl, _, rfl, ix _ ⟨_, rfl, ix _ ⟨y, dy, k, k, rfl, ky, _, rfl, ?_⟩⟩⟩
            cases er : tupD dy k k with
            | false =>
              have q2 : Q (.bl (tupD dy k k && (seqD dy).all (fun x => readingD x m st))) H := q
              rw [er] at q2
              exact q2
            | true =>
              have q2 : Q (.bl (tupD dy k k && (seqD dy).all (fun x => readingD x m st))) H := q
              rw [er, Bool.true_and] at q2
              obtain ⟨es, rfl, h6, h7⟩ := tup_of er
              cases ky with
              | tup hy hya =>
                rename_i b ys
                have hlen : ys.length = es.length := DpAll.len hya
                refine ⟨_, rfl, b, rfl, ⟨ys, hy⟩, for_tup (xs := ys) (fun i σ H' => H' = H ∧ (es.take i).all (fun x => readingD x m st) = true ∧ ∃ u, σ = [some (.ref a), some (.int m), some (.int st), some (.str z), some (.ref b), u]) ⟨rfl, rfl, _, rfl⟩ (fun i σ H' _ h => by rw [h.1]; exact hy) ?_ ?_⟩
                · rintro i x σ H' ei ⟨rfl, hp, u, rfl⟩
                  obtain ⟨dx, ex, kx⟩ := DpAll.get hya ei
                  refine ⟨_, rfl, _, rfl, _, rfl, x, dx, m, st, rfl, kx, _, rfl, ?_⟩
                  cases ev : readingD dx m st with
                  | false =>
                    have z := all_not (p := fun x => readingD x m st) ex ev
                    have q3 : Q (.bl (es.all fun x => readingD x m st)) H' := q2
                    rw [z] at q3
                    exact q3
                  | true => exact ⟨rfl, all_take (p := fun x => readingD x m st) hp ex ev, _, rfl⟩
                · rintro σ H' ⟨rfl, hp, u, rfl⟩
                  rw [hlen, List.take_length] at hp
                  have q3 : Q (.bl (es.all fun x => readingD x m st)) H' := q2
                  rw [hp] at q3
                  exact q3
        | non => exact q
        | bl b => exact q
        | int i => exact q
        | lst _ _ => exact q
        | tup _ _ => exact q
end

/-! ### are_steps, is_made, is_recipe -/
def spSteps (K : PySem.W.Frag) : Sp := fun vs H Q _ => ∃ (v : V) (d : PyData) (m : Int), vs = [v, .int m] ∧ Dp K H v d ∧ Q (.bl (stepsD d m)) H
theorem stepsAll_at : ∀ {ds : List PyData} {m : Int} {s i : Nat} {d : PyData}, stepsAllD ds m s = true → ds[i]? = some d → stepD d m ((s + i : Nat) : Int) = true
  | [], _, _, _, _, _, e => by simp at e
  | x :: r, m, s, 0, d, h, e => by
    rw [stepsAllD, Bool.and_eq_true] at h
    cases e
    exact h.1
  | x :: r, m, s, i + 1, d, h, e => by
    rw [stepsAllD, Bool.and_eq_true] at h
    have := stepsAll_at (i := i) h.2 (by simpa using e)
    rw [show s + (i + 1) = s + 1 + i by omega]
    exact this
theorem stepsAll_of : ∀ {ds : List PyData} {m : Int} {s : Nat}, (∀ (i : Nat) (d : PyData), ds[i]? = some d → stepD d m ((s + i : Nat) : Int) = true) → stepsAllD ds m s = true
  | [], _, _, _ => rfl
  | x :: r, m, s, h => by
    rw [stepsAllD, stepsAll_of fun i d e => by
      have := h (i + 1) d (by simpa using e)
      rw [show s + 1 + i = s + (i + 1) by omega]
      exact this]
    have := h 0 x rfl
    rw [show ((s + 0 : Nat) : Int) = (s : Int) by omega] at this
    rw [this]
    rfl
section
variable {P : Program} {w : World} {K : PySem.W.Frag} {mg : Str → Option Value} {base : Heap}
theorem ok_are_steps (T : Tx K mg w) : FnOk P w K mg base CX0 4 T.f_are_steps T.d_are_steps ["value", "many_things"] (spSteps K) := by
  have G_is_tuple : FnOk P w K mg base CX0 1 T.f_is_tuple T.d_is_tuple ["value", "least", "most"] (spTupD K) := ok_is_tuple T
  have G_is_step : FnOk P w K mg base CX0 3 T.f_is_step T.d_is_step ["value", "many_things", "step"] (spStep K) := ok_is_step T
  refine T.F_are_steps.ok sc_are_steps (fun vs H Q E h => ?_) (fun cdv A outer s H vs Q E hr h => ?_)
  · obtain ⟨v, d, m, rfl, _⟩ := h
    rfl
  · obtain ⟨v, d, m, rfl, hd, q⟩ := h
    refine ⟨_, (pss_cons (ps_if (pt_not (pt_val (pe_call G_is_tuple (hr.mono (by decide)) (by rfl) T.g_is_tuple T.F_is_tuple.kp T.b_is_tuple .nil pass0 (pa_cons (pv 0) (pa_cons pe_int (pa_cons (pe_glob (v := .int 8) (by rfl) T.g_MOST_STEPS ⟨_, rfl⟩) pa_nil)))))) (pss_one (ps_ret pe_bl)) pss_nil)
      (pss_cons (ps_for PassesOwn.never rfl (pi_range1 (by rfl) T.z_range (pa_cons (pe_callB call_len_seq (by rfl) T.z_len PySem.boot_len (pa_cons (pv 0) pa_nil)) pa_nil)) (pg_name (i := 2) sc_are_steps.nd rfl (Or.inl rfl))
        (pss_one (ps_if (pt_not (pt_val (pe_call G_is_step hr (by rfl) T.g_is_step T.F_is_step.kp T.b_is_step .nil pass0 (pa_cons (pe_ix ix_tup (pv 0) (pv 2) (fun _ _ => rfl)) (pa_cons (pv 1) (pa_cons (pv 2) pa_nil)))))) (pss_one (ps_ret pe_bl)) pss_nil)))
      (pss_one (ps_ret pe_bl)))), ?_⟩
    refine ⟨_, rfl, v, d, 1, 8, rfl, hd, _, rfl, ?_⟩
    have eT : stepsD d m = (tupD d 1 8 && stepsAllD (seqD d) m 0) := rfl
    cases et : tupD d 1 8 with
    | false =>
      rw [eT, et] at q
      exact q
    | true =>
      obtain ⟨ds, rfl, h1, h8⟩ := tup_of et
      rw [eT, et, Bool.true_and] at q
      have q2 : Q (.bl (stepsAllD ds m 0)) H := q
      cases hd with
      | tup hq ha =>
        rename_i a xs
        have hlen : xs.length = ds.length := DpAll.len ha
        refine ⟨_, rfl, a, xs, rfl, .inr hq, _, rfl, by omega, by omega, ?_⟩
        refine for_range (fun i σ H' => H' = H ∧ (∀ (j : Nat) (x : PyData), j < i → ds[j]? = some x → stepD x m (j : Int) = true) ∧ ∃ u, σ = [some (.ref a), some (.int m), u]) ⟨rfl, fun j x h => absurd h (Nat.not_lt_zero _), _, rfl⟩ ?_ ?_
        · rintro i σ H' hi ⟨rfl, hp, u, rfl⟩
          have hi1 : i < xs.length := by omega
          have g0 : xs[i]? = some xs[i] := List.getElem?_eq_getElem hi1
          obtain ⟨d0, e0, k0⟩ := DpAll.get ha g0
          have a0 : atI xs (0 + (i : Int)) = some xs[i] := by
            rw [show (0 + (i : Int)) = ((i : Nat) : Int) by omega]
            exact atI_nat g0
          refine ⟨_, rfl, _, rfl, a, xs, _, _, rfl, rfl, hq, a0, _, rfl, _, rfl, _, d0, m, 0 + (i : Int), rfl, k0, _, rfl, ?_⟩
          have ei : (0 + (i : Int)) = (i : Int) := by omega
          rw [ei]
          cases ev : stepD d0 m (i : Int) with
          | false =>
            have z : stepsAllD ds m 0 = false := by
              cases z : stepsAllD ds m 0 with
              | false => rfl
              | true =>
                have z2 := stepsAll_at z e0
                rw [show ((0 + i : Nat) : Int) = (i : Int) by omega, ev] at z2
                cases z2
            rw [z] at q2
            exact q2
          | true =>
            refine ⟨rfl, fun j x hj ex => ?_, _, rfl⟩
            by_cases h : j < i
            · exact hp j x h ex
            · have ej : j = i := by omega
              subst ej
              rw [e0] at ex
              cases ex
              exact ev
        · rintro σ H' ⟨rfl, hp, u, rfl⟩
          have z : stepsAllD ds m 0 = true := stepsAll_of fun i d e => by
            rw [show ((0 + i : Nat) : Int) = (i : Int) by omega]
            exact hp i d (by have := (List.getElem?_eq_some_iff.mp e).1; omega) e
          rw [z] at q2
          exact q2
def spMade (K : PySem.W.Frag) : Sp := fun vs H Q _ => ∃ (v : V) (d : PyData) (m : Int), vs = [v, .int m] ∧ Dp K H v d ∧ Q (.bl (madeD d m)) H
theorem ok_is_made (T : Tx K mg w) : FnOk P w K mg base CX0 2 T.f_is_made T.d_is_made ["value", "many_steps"] (spMade K) := by
  have G_is_tuple : FnOk P w K mg base CX0 1 T.f_is_tuple T.d_is_tuple ["value", "least", "most"] (spTupD K) := ok_is_tuple T
  have G_is_number : FnOk P w K mg base CX0 1 T.f_is_number T.d_is_number ["value", "least", "most"] (spNum K) := ok_is_number T
  have G_is_ascending : FnOk P w K mg base CX0 1 T.f_is_ascending T.d_is_ascending ["values"] (spAsc K) := ok_is_ascending T
  refine T.F_is_made.ok sc_is_made (fun vs H Q E h => ?_) (fun cdv A outer s H vs Q E hr h => ?_)
  · obtain ⟨v, d, m, rfl, _⟩ := h
    rfl
  · obtain ⟨v, d, m, rfl, hd, q⟩ := h
    refine ⟨_, (pss_cons (ps_if (pt_not (pt_val (pe_call G_is_tuple hr (by rfl) T.g_is_tuple T.F_is_tuple.kp T.b_is_tuple .nil pass0 (pa_cons (pv 0) (pa_cons pe_int (pa_cons (pe_glob (v := .int 3) (by rfl) T.g_MOST_MADE ⟨_, rfl⟩) pa_nil)))))) (pss_one (ps_ret pe_bl)) pss_nil)
      (pss_cons (ps_for PassesOwn.never rfl (pi_tup (pv 0)) (pg_name (i := 2) sc_is_made.nd rfl (Or.inl rfl))
        (pss_one (ps_if (pt_not (pt_val (pe_call G_is_number hr (by rfl) T.g_is_number T.F_is_number.kp T.b_is_number .nil pass0 (pa_cons (pv 2) (pa_cons pe_int (pa_cons (pe_op op_sub (pv 1) pe_int) pa_nil)))))) (pss_one (ps_ret pe_bl)) pss_nil)))
      (pss_one (ps_ret (pe_call G_is_ascending hr (by rfl) T.g_is_ascending T.F_is_ascending.kp T.b_is_ascending .nil pass0 (pa_cons (pv 0) pa_nil)))))), ?_⟩
    refine ⟨_, rfl, v, d, 1, 3, rfl, hd, _, rfl, ?_⟩
    have eT : madeD d m = (tupD d 1 3 && (seqD d).all (fun x => numD x 0 (m - 1)) && ascD (seqD d)) := rfl
    cases et : tupD d 1 3 with
    | false =>
      rw [eT, et] at q
      exact q
    | true =>
      obtain ⟨ds, rfl, h1, h4⟩ := tup_of et
      rw [eT, et, Bool.true_and] at q
      have q2 : Q (.bl ((ds.all fun x => numD x 0 (m - 1)) && ascD ds)) H := q
      cases hd with
      | tup hq ha =>
        rename_i a xs
        have hd : Dp K H (.ref a) (.tuple ds) := .tup hq ha
        have hlen : xs.length = ds.length := DpAll.len ha
        refine ⟨_, rfl, a, rfl, ⟨xs, hq⟩, for_tup (xs := xs) (fun i σ H' => H' = H ∧ (ds.take i).all (fun x => numD x 0 (m - 1)) = true ∧ ∃ u, σ = [some (.ref a), some (.int m), u]) ⟨rfl, rfl, _, rfl⟩ (fun i σ H' _ h => by rw [h.1]; exact hq) ?_ ?_⟩
        · rintro i x σ H' ei ⟨rfl, hp, u, rfl⟩
          obtain ⟨dx, ex, kx⟩ := DpAll.get ha ei
          refine ⟨_, rfl, _, rfl, _, _, rfl, rfl, x, dx, 0, m - 1, rfl, kx, _, rfl, ?_⟩
          cases ev : numD dx 0 (m - 1) with
          | false =>
            have z := all_not (p := fun x => numD x 0 (m - 1)) ex ev
            rw [z] at q2
            exact q2
          | true => exact ⟨rfl, all_take (p := fun x => numD x 0 (m - 1)) hp ex ev, _, rfl⟩
        · rintro σ H' ⟨rfl, hp, u, rfl⟩
          rw [hlen, List.take_length] at hp
          rw [hp, Bool.true_and] at q2
          refine ⟨_, rfl, _, ds, rfl, hd, by omega, fun x hx y hy => ?_, q2⟩
          obtain ⟨zx, rfl, _⟩ := num_int (List.all_eq_true.mp hp x hx)
          obtain ⟨zy, rfl, _⟩ := num_int (List.all_eq_true.mp hp y hy)
          exact trivial
def spRecipe (K : PySem.W.Frag) : Sp := fun vs H Q _ => ∃ (v : V) (d : PyData), vs = [v] ∧ Dp K H v d ∧ smD d = true ∧ Q (.bl (recipeD d)) H
theorem recipe_none {d : PyData} (h : tupD d 3 3 = false) : recipeD d = false := by
  cases d with
  | tuple ds =>
    match ds with
    | [x, y, z] => cases h
    | [] => rfl
    | [_] => rfl
    | [_, _] => rfl
    | _ :: _ :: _ :: _ :: _ => rfl
  | _ => rfl
theorem ok_is_recipe (T : Tx K mg w) : FnOk P w K mg base CX0 5 T.f_is_recipe T.d_is_recipe ["value"] (spRecipe K) := by
  have G_is_tuple : FnOk P w K mg base CX0 1 T.f_is_tuple T.d_is_tuple ["value", "least", "most"] (spTupD K) := ok_is_tuple T
  have G_are_things : FnOk P w K mg base CX0 3 T.f_are_things T.d_are_things ["value"] (spThings K) := ok_are_things T
  have G_are_steps : FnOk P w K mg base CX0 4 T.f_are_steps T.d_are_steps ["value", "many_things"] (spSteps K) := ok_are_steps T
  have G_is_made : FnOk P w K mg base CX0 2 T.f_is_made T.d_is_made ["value", "many_steps"] (spMade K) := ok_is_made T
  refine T.F_is_recipe.ok sc_is_recipe (fun vs H Q E h => ?_) (fun cdv A outer s H vs Q E hr h => ?_)
  · obtain ⟨v, d, rfl, _⟩ := h
    rfl
  · obtain ⟨v, d, rfl, hd, hs, q⟩ := h
    refine ⟨_, (pss_cons (ps_if (pt_not (pt_val (pe_call G_is_tuple (hr.mono (by decide)) (by rfl) T.g_is_tuple T.F_is_tuple.kp T.b_is_tuple .nil pass0 (pa_cons (pv 0) (pa_cons pe_int (pa_cons pe_int pa_nil)))))) (pss_one (ps_ret pe_bl)) pss_nil)
      (pss_cons (ps_asg (pv 0) (pg_tup rfl (pgs_cons (pg_name (i := 1) sc_is_recipe.nd rfl (Or.inl rfl)) (pgs_cons (pg_name (i := 2) sc_is_recipe.nd rfl (Or.inl rfl)) (pgs_cons (pg_name (i := 3) sc_is_recipe.nd rfl (Or.inl rfl)) pgs_nil)))))
      (pss_one (ps_ret (pe_and (pe_call G_are_things (hr.mono (by decide)) (by rfl) T.g_are_things T.F_are_things.kp T.b_are_things .nil pass0 (pa_cons (pv 1) pa_nil)) (pe_and (pe_call G_are_steps hr (by rfl) T.g_are_steps T.F_are_steps.kp T.b_are_steps .nil pass0 (pa_cons (pv 2) (pa_cons (pe_callB call_len_seq (by rfl) T.z_len PySem.boot_len (pa_cons (pv 1) pa_nil)) pa_nil))) (pe_one (pe_call G_is_made (hr.mono (by decide)) (by rfl) T.g_is_made T.F_is_made.kp T.b_is_made .nil pass0 (pa_cons (pv 3) (pa_cons (pe_callB call_len_seq (by rfl) T.z_len PySem.boot_len (pa_cons (pv 2) pa_nil)) pa_nil)))))))))), ?_⟩
    refine ⟨_, rfl, v, d, 3, 3, rfl, hd, _, rfl, ?_⟩
    cases et : tupD d 3 3 with
    | false =>
      rw [recipe_none et] at q
      exact q
    | true =>
      obtain ⟨ds, rfl, h1, h4⟩ := tup_of et
      cases hd with
      | tup hq ha =>
        rename_i a xs
        obtain ⟨x, y, z, dx, dy, dz, rfl, rfl, kx, ky, kz⟩ := three_of ha (by omega)
        have e0 : recipeD (.tuple [dx, dy, dz]) = (thingsD dx && (stepsD dy ((seqD dx).length : Int) && madeD dz ((seqD dy).length : Int))) := rfl
        have sx : smD dx = true := smDs_get (i := 0) (show smDs [dx, dy, dz] = true from hs) rfl
        refine ⟨_, rfl, a, [x, y, z], rfl, hq, rfl, x, [y, z], rfl, y, [z], rfl, z, [], rfl, rfl, ?_⟩
        rw [e0] at q
        refine ⟨_, rfl, x, dx, rfl, kx, sx, _, rfl, ?_⟩
        cases ex : thingsD dx with
        | false =>
          rw [ex] at q
          exact q
        | true =>
          rw [ex, Bool.true_and] at q
          have e3 : (tupD dx 1 5 && (seqD dx).all thingD && decide (prodD (seqD dx) ≤ 256)) = true := ex
          rw [Bool.and_eq_true, Bool.and_eq_true] at e3
          obtain ⟨es, rfl, _, _⟩ := tup_of e3.1.1
          cases kx with
          | tup hx hxa =>
            rename_i b bs
            have hb : bs.length = es.length := DpAll.len hxa
            refine ⟨_, rfl, _, rfl, b, bs, rfl, .inr hx, y, dy, (bs.length : Int), rfl, ky, ?_⟩
            have q2 : Q (.bl (stepsD dy (es.length : Int) && madeD dz ((seqD dy).length : Int))) H := q
            rw [hb]
            refine ⟨_, rfl, ?_⟩
            cases ey : stepsD dy (es.length : Int) with
            | false =>
              rw [ey] at q2
              exact q2
            | true =>
              rw [ey, Bool.true_and] at q2
              have e4 : (tupD dy 1 8 && stepsAllD (seqD dy) (es.length : Int) 0) = true := ey
              rw [Bool.and_eq_true] at e4
              obtain ⟨fs, rfl, _, _⟩ := tup_of e4.1
              cases ky with
              | tup hy hya =>
                rename_i c cs
                have hc : cs.length = fs.length := DpAll.len hya
                refine ⟨_, rfl, _, rfl, c, cs, rfl, .inr hy, z, dz, (cs.length : Int), rfl, kz, ?_⟩
                have q3 : Q (.bl (madeD dz (fs.length : Int))) H := q2
                rw [hc]
                exact q3
end

/-! ### some_step: a step of a recipe with m things, behind c steps -/
def namesS : List Str := ["join", "join", "less", "same", "pick", "sort", "turn", "first", "rest"]
def arity : List (Key × V) := [(.inr "join", .int 2), (.inr "less", .int 2), (.inr "same", .int 2), (.inr "pick", .int 3)]
theorem arity_of {z : Str} (h : z ∈ namesS) : ∃ k : Nat, (valV (mergeK [] arity) (Sum.inr z : Key)).getD (.int 1) = .int (k : Int) ∧ lookM mREADINGS' z = some (k : Int) ∧ 1 ≤ k ∧ k ≤ 3 := by
  simp only [namesS, List.mem_cons, List.not_mem_nil, or_false] at h
  rcases h with h | h | h | h | h | h | h | h | h
  all_goals subst h
  · exact ⟨2, by decide +kernel, by decide +kernel, by decide, by decide⟩
  · exact ⟨2, by decide +kernel, by decide +kernel, by decide, by decide⟩
  · exact ⟨2, by decide +kernel, by decide +kernel, by decide, by decide⟩
  · exact ⟨2, by decide +kernel, by decide +kernel, by decide, by decide⟩
  · exact ⟨3, by decide +kernel, by decide +kernel, by decide, by decide⟩
  · exact ⟨1, by decide +kernel, by decide +kernel, by decide, by decide⟩
  · exact ⟨1, by decide +kernel, by decide +kernel, by decide, by decide⟩
  · exact ⟨1, by decide +kernel, by decide +kernel, by decide, by decide⟩
  · exact ⟨1, by decide +kernel, by decide +kernel, by decide, by decide⟩
theorem names_sm {z : Str} (h : z ∈ namesS) : smD (.str z) = true := by
  simp only [namesS, List.mem_cons, List.not_mem_nil, or_false] at h
  rcases h with h | h | h | h | h | h | h | h | h
  all_goals subst h
  all_goals decide +kernel
theorem reading_sm {d : PyData} {m s : Int} (h : readingD d m s = true) : smD d = true := by
  cases et : tupD d 2 2 with
  | false => rw [reading_none et] at h; cases h
  | true =>
    obtain ⟨ds, rfl, h1, h2⟩ := tup_of et
    match ds, h1, h2 with
    | [x, y], _, _ =>
      cases x with
      | str w =>
        have h3 : (if w = ("thing" : Str) then numD y 0 (m - 1) else decide (w = ("step" : Str)) && numD y 0 (s - 1)) = true := h
        have hw : smD (.str w) = true ∧ ∃ i, y = .int i := by
          by_cases e : w = "thing"
          · rw [if_pos e] at h3
            obtain ⟨i, hi, _⟩ := num_int h3
            exact ⟨by rw [e]; decide +kernel, i, hi⟩
          · rw [if_neg e, Bool.and_eq_true] at h3
            obtain ⟨i, hi, _⟩ := num_int h3.2
            exact ⟨by rw [of_decide_eq_true h3.1]; decide +kernel, i, hi⟩
        obtain ⟨hw, i, rfl⟩ := hw
        show (smD (.str w) && (smD (.int i) && true)) = true
        rw [hw]
        rfl
      | _ => cases h
theorem smDs_all : ∀ {ds : List PyData}, (∀ d ∈ ds, smD d = true) → smDs ds = true
  | [], _ => rfl
  | d :: r, h => by
    rw [smDs, h d List.mem_cons_self, smDs_all fun x hx => h x (List.mem_cons_of_mem _ hx)]
    rfl
theorem reading_eq (w : Str) (d : PyData) (m s : Int) : readingD (.tuple [.str w, d]) m s = if w = "thing" then numD d 0 (m - 1) else decide (w = ("step" : Str)) && numD d 0 (s - 1) := rfl
theorem num_in {i hi : Int} (h0 : 0 ≤ i) (h1 : i < hi) : numD (.int i) 0 (hi - 1) = true := by
  show (decide (0 ≤ i) && decide (i ≤ hi - 1)) = true
  rw [decide_eq_true h0, decide_eq_true (by omega)]
  rfl
theorem reading_thing {i m s : Int} (h0 : 0 ≤ i) (h1 : i < m) : readingD (.tuple [.str "thing", .int i]) m s = true := by
  rw [reading_eq, if_pos rfl, num_in h0 h1]
theorem reading_step {i m s : Int} (h0 : 0 ≤ i) (h1 : i < s) : readingD (.tuple [.str "step", .int i]) m s = true := by
  rw [reading_eq, if_neg (by decide +kernel), decide_eq_true rfl, num_in h0 h1]
  rfl
def spSomeStep (K : PySem.W.Frag) : Sp := fun vs H Q _ => ∃ (a st : Addr) (ns : List Int) (n : Nat) (m c : Int), vs = [.ref a, .ref st, .int m, .int c] ∧ En K a st ns n H ∧ n + 10 < 100000 ∧ 1 ≤ m ∧ 0 ≤ c ∧
  ∀ (v : V) (d : PyData) H', Tp H' v d → stepD d m c = true → smD d = true → Gx st H H' → En K a st ns (n + 7) H' → Q v H'
section
variable {P : Program} {w : World} {K : PySem.W.Frag} {mg : Str → Option Value} {base : Heap}
theorem ok_some_step (T : Tx K mg w) : FnOk P w K mg base CX0 5 T.f__law_some_step T.d__law_some_step ["_law_script", "_law_state", "_law_things", "_law_count"] (spSomeStep K) := by
  have G_draw : FnOk P w K mg base CX0 3 T.f__law_draw T.d__law_draw ["_law_script", "_law_state", "_law_many"] (spDraw K) := ok_draw T
  have G_pick : FnOk P w K mg base CX0 4 T.f__law_pick T.d__law_pick ["_law_script", "_law_state", "_law_some"] (spPick K) := ok_pick T
  refine T.F__law_some_step.ok sc_some_step (fun vs H Q E h => ?_) (fun cdv A outer s H vs Q E hr h => ?_)
  · obtain ⟨a, st, ns, n, m, c, rfl, _⟩ := h
    rfl
  · obtain ⟨a, st, ns, n, m, c, rfl, EN, hn, hm, hc, q⟩ := h
    refine ⟨_, (pss_cons (ps_set (i := 4) sc_some_step.nd rfl (Or.inl rfl) (pe_tup (pa_cons pe_str (pa_cons pe_str (pa_cons pe_str (pa_cons pe_str (pa_cons pe_str (pa_cons pe_str (pa_cons pe_str (pa_cons pe_str (pa_cons pe_str pa_nil)))))))))))
      (pss_cons (ps_par (i := 5) (j := 6) (by rfl) sc_some_step.nd rfl rfl (by decide) rfl rfl (pa_cons (pe_call G_pick hr (by rfl) T.g__law_pick T.F__law_pick.kp T.b__law_pick .nil pass0 (pa_cons (pv 0) (pa_cons (pv 1) (pa_cons (pv 4) pa_nil)))) (pa_cons (pe_lst pa_nil) pa_nil)) (by rfl))
      (pss_cons (ps_for PassesOwn.never rfl (pi_range1 (by rfl) T.z_range (pa_cons (pe_dget2 (hu_of hr) (pe_disp (pps_cons pe_str pe_int (pps_cons pe_str pe_int (pps_cons pe_str pe_int (pps_cons pe_str pe_int pps_nil)))) (by rfl) (by rfl) (fun z => by cases z) (by decide)) (pv 5) pe_int ⟨rfl, rfl, rfl, rfl⟩) pa_nil)) (pg_name (i := 7) sc_some_step.nd rfl (Or.inl rfl))
        (pss_one (ps_if (PW.pt (pw_or (pt_cmpR op_eq (pv 3) pe_int (nomark _)) (pw_or1 (pt_cmpR op_lt (pe_call G_draw (hr.mono (by decide)) (by rfl) T.g__law_draw T.F__law_draw.kp T.b__law_draw .nil pass0 (pa_cons (pv 0) (pa_cons (pv 1) (pa_cons pe_int pa_nil)))) pe_int (nomark _))))) (pss_one (ps_expr (pe_bm PySem.F.plainAttrs_list PySem.F.slot_list_append PySem.F.type_list_append mt_append (pv 6) (pa_cons (pe_tup (pa_cons pe_str (pa_cons (pe_call G_draw (hr.mono (by decide)) (by rfl) T.g__law_draw T.F__law_draw.kp T.b__law_draw .nil pass0 (pa_cons (pv 0) (pa_cons (pv 1) (pa_cons (pv 2) pa_nil)))) pa_nil))) pa_nil)))) (pss_one (ps_expr (pe_bm PySem.F.plainAttrs_list PySem.F.slot_list_append PySem.F.type_list_append mt_append (pv 6) (pa_cons (pe_tup (pa_cons pe_str (pa_cons (pe_call G_draw (hr.mono (by decide)) (by rfl) T.g__law_draw T.F__law_draw.kp T.b__law_draw .nil pass0 (pa_cons (pv 0) (pa_cons (pv 1) (pa_cons (pv 3) pa_nil)))) pa_nil))) pa_nil)))))))
      (pss_one (ps_ret (pe_tup (pa_cons (pv 5) (pa_cons (pe_callTy call_tuple_of (by rfl) T.z_tuple (by decide +kernel) (pa_cons (pv 6) pa_nil)) pa_nil)))))))), ?_⟩
    -- names = (..)
    refine ⟨by show 9 ≤ sizeLine; decide, fun nm hnm => ?_⟩
    have E0 := EN.lay (o := .tup (namesS.map V.str)) hnm
    -- name, reads = pick(..), []
    refine ⟨_, rfl, _, rfl, _, rfl, a, st, nm, ns, n, namesS.map V.str, rfl, E0, by omega, SqT.of upd_same, by decide +kernel, fun x H1 hx g1 E1 => ⟨Nat.zero_le _, fun rp hrp => ⟨_, _, rfl, ?_⟩⟩⟩
    obtain ⟨z, hz, rfl⟩ := List.mem_map.mp hx
    obtain ⟨k, e1, e2, hk1, hk3⟩ := arity_of hz
    have nrs : rp ≠ st := E1.st_ne hrp
    have g01 : Gx st H H1 := (Gx.new hnm).trans g1
    have hr0 : H rp = none := g01.free EN.some_ E1.some_ hrp
    -- range({..}.get(name, 1))
    refine fun dp hdp => ⟨upd_same, arity, rfl, by decide, dp, rfl, .inl ⟨_, .inl upd_same⟩, _, rfl, _, .inl ⟨_, Sum.inr z, .inl upd_same, rfl, rfl⟩, ?_⟩
    rw [upd_upd]
    have ndr : rp ≠ dp := fun e => by rw [← e, upd_same] at hdp; cases hdp
    have E2 := (E1.lay (o := .lst []) hrp).lay (o := .dK (mergeK [] arity)) hdp
    have g2 : Gx st H (upd (upd H1 rp (.lst [])) dp (.dK (mergeK [] arity))) := (g01.trans (Gx.new hrp)).trans (Gx.new hdp)
    have eR : (upd (upd H1 rp (.lst [])) dp (.dK (mergeK [] arity))) rp = some (.lst []) := by rw [upd_ne ndr, upd_same]
    generalize (upd (upd H1 rp (.lst [])) dp (.dK (mergeK [] arity))) = H2 at E2 g2 eR ⊢
    refine ⟨(k : Int), congrArg (fun v => [v]) e1, by omega, by omega, ?_⟩
    rw [show ((k : Int)).toNat = k by omega]
    refine for_range (fun i σ H' => ∃ (vs : List V) (ds : List PyData) (u : Option V), σ = [some (.ref a), some (.ref st), some (.int m), some (.int c), some (.ref nm), some (.str z), some (.ref rp), u] ∧ Gx st H H' ∧ En K a st ns (n + 1 + 2 * i) H' ∧ H' rp = some (.lst vs) ∧ TpAll H' vs ds ∧ (ds.all fun x => readingD x m c) = true ∧ ds.length = i)
      ⟨[], [], none, rfl, g2, E2, eR, .nil, rfl, rfl⟩ ?_ ?_
    · rintro i σ H' hi ⟨vs, ds, u, rfl, g, E, eV, hT, hA, hL⟩
      have hvl : vs.length = i := by rw [TpAll.len hT, hL]
      -- the two ways on
      have way : ∀ (H3 : Hp) (n3 : Nat) (x : PyData) (t : Addr) (wd : Str) (r : Int), n3 ≤ n + 1 + 2 * (i + 1) → Gx st H' H3 → En K a st ns n3 H3 → readingD (.tuple [.str wd, .int r]) m c = true → H3 t = none →
          ∀ (D : Ends) (u : Option V), (∀ (vs' : List V) (ds' : List PyData) (u' : Option V) (H4 : Hp), Gx st H H4 → En K a st ns (n + 1 + 2 * (i + 1)) H4 → H4 rp = some (.lst vs') → TpAll H4 vs' ds' → (ds'.all fun x => readingD x m c) = true → ds'.length = i + 1 → D.nx [some (.ref a), some (.ref st), some (.int m), some (.int c), some (.ref nm), some (.str z), some (.ref rp), u] H4) →
          rAppend (.ref rp) [.ref t] (upd H3 t (.tup [.str wd, .int r])) fun _ H5 => D.nx [some (.ref a), some (.ref st), some (.int m), some (.int c), some (.ref nm), some (.str z), some (.ref rp), u] H5 := by
        intro H3 n3 x t wd r hn3 g3 E3 hrd ht D u hD
        have eV3 : H3 rp = some (.lst vs) := g3 rp _ nrs eV
        have ntr : rp ≠ t := ne_of_none eV3 ht
        refine ⟨rp, vs, .ref t, rfl, rfl, by rw [upd_ne ntr]; exact eV3, Nat.lt_of_lt_of_le (show vs.length < 100000 by omega) (by decide), ?_⟩
        have ns3 := E3.st_ne ht
        have gA : Gx st H (upd (upd H3 t (.tup [.str wd, .int r])) rp (.lst (vs ++ [.ref t]))) := (((g.trans g3).trans (Gx.new ht))).mut hr0
        have kt3 : KT H' H3 := E.kt g3
        have kt4 : KT H3 (upd (upd H3 t (.tup [.str wd, .int r])) rp (.lst (vs ++ [.ref t]))) := fun b xs e => by
          rw [upd_ne (ne_of e eV3 (by intro q; cases q)), upd_ne (ne_of_none e ht)]
          exact e
        obtain ⟨zs, ez, hz2⟩ := E3.zs
        refine hD (vs ++ [.ref t]) (ds ++ [.tuple [.str wd, .int r]]) u _ gA (EN.next gA ⟨zs, by rw [upd_ne nrs.symm, upd_ne ns3.symm]; exact ez, by omega⟩ (by omega)) upd_same ?_ ?_ ?_
        · refine TpAll.app (TpAll.mono (kt3.trans kt4) _ _ hT) (.cons (.tup (xs := [.str wd, .int r]) ?_ (.cons (.str _) (.cons (.int _) .nil))) .nil)
          rw [upd_ne ntr.symm, upd_same]
        · rw [List.all_append, hA]
          show (true && (readingD (.tuple [.str wd, .int r]) m c && true)) = true
          rw [hrd]
          rfl
        · rw [List.length_append, hL]
          rfl
      -- count == 0 or draw(..) < 3
      refine ⟨_, rfl, rfl, _, rfl, ?_⟩
      by_cases h0 : c = 0
      · have e0 : decide (V.int c = V.int 0) = true := decide_eq_true (by rw [h0])
        rw [e0]
        refine iteT (iteT ⟨_, rfl, .inl ⟨rfl, _, SqL.of eV⟩, _, rfl, _, rfl, _, rfl, a, st, ns, _, m, rfl, E, by omega, by omega, fun r H3 h1 h2 g3 E3 => ⟨by show 2 ≤ sizeLine; decide, fun t ht => ?_⟩⟩)
        exact way H3 _ .none t "thing" r (by omega) g3 E3 (reading_thing h1 h2) ht _ _ fun vs' ds' u' H4 a1 a2 a3 a4 a5 a6 => ⟨vs', ds', _, rfl, a1, a2, a3, a4, a5, a6⟩
      · have e0 : decide (V.int c = V.int 0) = false := decide_eq_false (fun h => h0 (V.int.inj h))
        rw [e0]
        refine iteF ⟨_, rfl, _, rfl, a, st, ns, _, 5, rfl, E, by omega, by decide, fun r0 H3 h1 h2 g3 E3 => ⟨_, _, rfl, rfl, _, rfl, ?_⟩⟩
        have eV3 : H3 rp = some (.lst vs) := g3 rp _ nrs eV
        refine ite2 (fun e => ?_) (fun e => ?_)
        · refine ⟨_, rfl, .inl ⟨rfl, _, SqL.of eV3⟩, _, rfl, _, rfl, _, rfl, a, st, ns, _, m, rfl, E3, by omega, by omega, fun r H4 h3 h4 g4 E4 => ⟨by show 2 ≤ sizeLine; decide, fun t ht => ?_⟩⟩
          exact way H4 _ .none t "thing" r (by omega) (g3.trans g4) E4 (reading_thing h3 h4) ht _ _ fun vs' ds' u' H4 a1 a2 a3 a4 a5 a6 => ⟨vs', ds', _, rfl, a1, a2, a3, a4, a5, a6⟩
        · refine ⟨_, rfl, .inl ⟨rfl, _, SqL.of eV3⟩, _, rfl, _, rfl, _, rfl, a, st, ns, _, c, rfl, E3, by omega, by omega, fun r H4 h3 h4 g4 E4 => ⟨by show 2 ≤ sizeLine; decide, fun t ht => ?_⟩⟩
          exact way H4 _ .none t "step" r (by omega) (g3.trans g4) E4 (reading_step h3 h4) ht _ _ fun vs' ds' u' H4 a1 a2 a3 a4 a5 a6 => ⟨vs', ds', _, rfl, a1, a2, a3, a4, a5, a6⟩
    · rintro σ H' ⟨vs, ds, u, rfl, g, E, eV, hT, hA, hL⟩
      -- return (name, tuple(reads))
      refine ⟨_, rfl, _, rfl, rp, vs, rfl, .inl ⟨SqL.of eV, fun t1 ht1 => ⟨by show 2 ≤ sizeLine; decide, fun t2 ht2 => ?_⟩⟩⟩
      have kt : KT H' (upd (upd H' t1 (.tup vs)) t2 (.tup [.str z, .ref t1])) := (KT.of (same_new ht1)).trans (KT.of (same_new ht2))
      have n12 : t1 ≠ t2 := fun e => by rw [← e, upd_same] at ht2; cases ht2
      refine q (.ref t2) (.tuple [.str z, .tuple ds]) _ ?_ ?_ ?_ ((g.trans (Gx.new ht1)).trans (Gx.new ht2)) (((E.lay ht1).lay ht2).more (by omega) (by omega))
      · exact .tup upd_same (.cons (.str z) (.cons (.tup (by rw [upd_ne n12, upd_same]) (TpAll.mono kt _ _ hT)) .nil))
      · show (match lookM mREADINGS' z with
            | some k => tupD (.tuple ds) k k && (ds.all fun x => readingD x m c)
            | none => false) = true
        rw [e2]
        show ((decide ((k : Int) ≤ (ds.length : Int)) && decide ((ds.length : Int) ≤ (k : Int))) && (ds.all fun x => readingD x m c)) = true
        rw [hA, hL, decide_eq_true (Int.le_refl _)]
        rfl
      · show (smD (.str z) && (smDs ds && true)) = true
        rw [names_sm hz, smDs_all fun d hd => reading_sm (List.all_eq_true.mp hA d hd)]
        rfl
end

/-! ### some_thing -/
def menuT : List PyData := [.tuple [.str "a", .str "b"], .tuple [.str "", .str "x"], .tuple [.str "ab", .str "ba"], .tuple [.str "", .str "a", .str "aab"], .tuple [.str "c"], .tuple [.str "b", .str "ca", .str "cb"]]
def menuA : List PyData := menuT ++ [.tuple [.str "", .str "a"], .tuple [.str "b", .str "ca"]]
theorem menu_cut {d : PyData} (h : d ∈ menuT) : .tuple ((seqD d).take 2) ∈ menuA := by
  simp only [menuT, List.mem_cons, List.not_mem_nil, or_false] at h
  simp only [menuA, menuT, List.cons_append, List.nil_append, List.mem_cons, List.not_mem_nil, or_false]
  rcases h with rfl | rfl | rfl | rfl | rfl | rfl <;> simp [seqD]
theorem menu_all {d : PyData} (h : d ∈ menuA) : thingD d = true ∧ smD d = true ∧ 1 ≤ (seqD d).length ∧ (seqD d).length ≤ 3 ∧ tupD d 1 3 = true := by
  simp only [menuA, menuT, List.cons_append, List.nil_append, List.mem_cons, List.not_mem_nil, or_false] at h
  rcases h with rfl | rfl | rfl | rfl | rfl | rfl | rfl | rfl <;> decide +kernel
theorem menu_tup {d : PyData} (h : d ∈ menuA) : ∃ ds, d = .tuple ds ∧ 1 ≤ ds.length ∧ ds.length ≤ 3 := by
  obtain ⟨_, _, h1, h2, h3⟩ := menu_all h
  obtain ⟨ds, rfl, _, _⟩ := tup_of h3
  exact ⟨ds, rfl, h1, h2⟩
def spSomeThing (K : PySem.W.Frag) : Sp := fun vs H Q _ => ∃ (a st : Addr) (ns : List Int) (n : Nat), vs = [.ref a, .ref st] ∧ En K a st ns n H ∧ n + 2 < 100000 ∧
  ∀ (v : V) (d : PyData) H', Tp H' v d → d ∈ menuA → Gx st H H' → En K a st ns (n + 2) H' → Q v H'
section
variable {P : Program} {w : World} {K : PySem.W.Frag} {mg : Str → Option Value} {base : Heap}
theorem ok_some_thing (T : Tx K mg w) : FnOk P w K mg base CX0 5 T.f__law_some_thing T.d__law_some_thing ["_law_script", "_law_state"] (spSomeThing K) := by
  have G_draw : FnOk P w K mg base CX0 3 T.f__law_draw T.d__law_draw ["_law_script", "_law_state", "_law_many"] (spDraw K) := ok_draw T
  have G_pick : FnOk P w K mg base CX0 4 T.f__law_pick T.d__law_pick ["_law_script", "_law_state", "_law_some"] (spPick K) := ok_pick T
  refine T.F__law_some_thing.ok sc_some_thing (fun vs H Q E h => ?_) (fun cdv A outer s H vs Q E hr h => ?_)
  · obtain ⟨a, st, ns, n, rfl, _⟩ := h
    rfl
  · obtain ⟨a, st, ns, n, rfl, EN, hn, q⟩ := h
    refine ⟨_, (pss_cons (ps_set (i := 2) sc_some_thing.nd rfl (Or.inl rfl) (pe_call G_pick hr (by rfl) T.g__law_pick T.F__law_pick.kp T.b__law_pick .nil pass0 (pa_cons (pv 0) (pa_cons (pv 1) (pa_cons (pe_tup (pa_cons (pe_tup (pa_cons pe_str (pa_cons pe_str pa_nil))) (pa_cons (pe_tup (pa_cons pe_str (pa_cons pe_str pa_nil))) (pa_cons (pe_tup (pa_cons pe_str (pa_cons pe_str pa_nil))) (pa_cons (pe_tup (pa_cons pe_str (pa_cons pe_str (pa_cons pe_str pa_nil)))) (pa_cons (pe_tup (pa_cons pe_str pa_nil)) (pa_cons (pe_tup (pa_cons pe_str (pa_cons pe_str (pa_cons pe_str pa_nil)))) pa_nil))))))) pa_nil)))))
      (pss_one (ps_ret (pe_ifExp (pt_cmpR op_gt (pe_call G_draw (hr.mono (by decide)) (by rfl) T.g__law_draw T.F__law_draw.kp T.b__law_draw .nil pass0 (pa_cons (pv 0) (pa_cons (pv 1) (pa_cons pe_int pa_nil)))) pe_int (nomark _)) (pv 2) (pe_slice sl_tupA (pv 2) po_none (po_some pe_int)))))), ?_⟩
    refine ⟨_, rfl, _, rfl, ?_⟩
    have ev : EvP (tTup (tCons (tTup (tCons (tC (.str "a")) (tCons (tC (.str "b")) tNil))) (tCons (tTup (tCons (tC (.str "")) (tCons (tC (.str "x")) tNil))) (tCons (tTup (tCons (tC (.str "ab")) (tCons (tC (.str "ba")) tNil))) (tCons (tTup (tCons (tC (.str "")) (tCons (tC (.str "a")) (tCons (tC (.str "aab")) tNil)))) (tCons (tTup (tCons (tC (.str "c")) tNil)) (tCons (tTup (tCons (tC (.str "b")) (tCons (tC (.str "ca")) (tCons (tC (.str "cb")) tNil)))) tNil))))))) (start ["_law_script", "_law_state", "_law_some"] [.ref a, .ref st]) H (.tuple menuT) := by
      unfold menuT
      walk_at "sb_evp"
    refine ev H (Same.refl _) _ fun v7 H7 s07 t7 => ?_
    obtain ⟨p7, xs7, rfl, e7, tA⟩ : ∃ p7 xs7, v7 = .ref p7 ∧ H7 p7 = some (.tup xs7) ∧ TpAll H7 xs7 menuT := by
      cases t7 with
      | tup h1 h2 => exact ⟨_, _, rfl, h1, h2⟩
    have hne : xs7 ≠ [] := fun e => by
      subst e
      cases tA
    have E7 : En K a st ns n H7 := EN.next (.of s07) (by obtain ⟨zs, ez, hz⟩ := EN.zs; exact ⟨zs, s07 _ _ ez, hz⟩) EN.small
    refine ⟨a, st, p7, ns, n, _, rfl, E7, by omega, SqT.of e7, hne, fun x H8 hx g8 E8 => ?_⟩
    obtain ⟨d, hd, td⟩ := TpAll.get (TpAll.mono (E7.kt g8) _ _ tA) hx
    obtain ⟨ds, rfl, hl1, hl3⟩ := menu_tup (List.mem_append_left _ hd : d ∈ menuA)
    cases td with
    | tup ex tx =>
      rename_i q1 ys
      have hyl := TpAll.len tx
      -- return some if draw(..) > 0 else some[:2]
      refine ⟨_, rfl, _, rfl, a, st, ns, _, 4, rfl, E8, by omega, by decide, fun r H9 h0 h4 g9 E9 => ⟨_, _, rfl, rfl, _, rfl, ite2 (fun _ => ?_) (fun _ => ?_)⟩⟩
      · exact ⟨_, rfl, q _ (.tuple ds) H9 (Tp.mono (E8.kt g9) _ _ (.tup ex tx)) (List.mem_append_left _ hd) (((Gx.of s07).trans g8).trans g9) E9⟩
      · have ex9 := E8.kt g9 _ _ ex
        have tx9 := TpAll.mono (E8.kt g9) _ _ tx
        have hcut : cutV ys none (some 2) = ys.take 2 := by
          unfold cutV
          rw [show HT.sIx ys.length ys.length (some 2) = min 2 ys.length from HT.sIx_nat ys.length ys.length 2, HT.sIx_none, List.drop_zero, Nat.sub_zero]
          by_cases h : 2 ≤ ys.length
          · rw [Nat.min_eq_left h]
          · rw [Nat.min_eq_right (by omega), List.take_length, List.take_of_length_le (by omega)]
        refine ⟨_, rfl, _, rfl, q1, ys, rfl, SqT.of ex9, fun hw => ?_, fun _ p hp => ?_⟩
        · refine q _ (.tuple ds) H9 (.tup ex9 tx9) (List.mem_append_left _ hd) (((Gx.of s07).trans g8).trans g9) E9
        · rw [hcut]
          refine q _ (.tuple (ds.take 2)) _ (.tup upd_same (TpAll.mono (KT.of (same_new hp)) _ _ (TpAll.take 2 tx9))) (menu_cut hd) ((((Gx.of s07).trans g8).trans g9).trans (Gx.new hp)) (E9.lay hp)
end

/-! ### facts of recipes as data; what a law promises -/
def spLaw (K : PySem.W.Frag) : Sp := fun vs H Q _ => ∃ (a : Addr) (ns : List Int), vs = [.ref a] ∧ Only H ∧ SqL K H a (ns.map V.int) ∧ ns.length ≤ 63 ∧ ∀ H', Q (.bl true) H'
theorem spd_recipe {K : PySem.W.Frag} {d : PyData} (h : smD d = true) : SpD K (spRecipe K) [d] (.bool (recipeD d)) := fun I H vs m hv Q E q => by
  cases hv with
  | cons h1 h2 =>
    cases h2
    exact ⟨_, d, rfl, Dp.mono m.sub _ _ h1, h, q _ I H (.refl m) (.bl _)⟩
theorem smDs_app {ds : List PyData} {d : PyData} (h : smDs ds = true) (g : smD d = true) : smDs (ds ++ [d]) = true := by
  induction ds with
  | nil =>
    show (smD d && true) = true
    rw [g]
    rfl
  | cons x r ih =>
    rw [smDs, Bool.and_eq_true] at h
    rw [List.cons_append, smDs, h.1, ih h.2]
    rfl
theorem reading_mono {d : PyData} {m m' s : Int} (h : readingD d m s = true) (hm : m ≤ m') : readingD d m' s = true := by
  cases et : tupD d 2 2 with
  | false => rw [reading_none et] at h; cases h
  | true =>
    obtain ⟨ds, rfl, h1, h2⟩ := tup_of et
    match ds, h1, h2 with
    | [x, y], _, _ =>
      cases x with
      | str w =>
        rw [reading_eq] at h ⊢
        by_cases e : w = "thing"
        · rw [if_pos e] at h ⊢
          obtain ⟨i, rfl, h3, h4⟩ := num_int h
          exact num_in h3 (by omega)
        · rw [if_neg e] at h ⊢
          exact h
      | _ => cases h
theorem step_mono {d : PyData} {m m' s : Int} (h : stepD d m s = true) (hm : m ≤ m') : stepD d m' s = true := by
  cases et : tupD d 2 2 with
  | false => rw [step_none et] at h; cases h
  | true =>
    obtain ⟨ds, rfl, h1, h2⟩ := tup_of et
    match ds, h1, h2 with
    | [x, y], _, _ =>
      cases x with
      | str z =>
        have e0 : ∀ m, stepD (.tuple [.str z, y]) m s = match lookM mREADINGS' z with
          | some k => tupD y k k && (seqD y).all (fun x => readingD x m s)
          | none => false := fun _ => rfl
        rw [e0] at h ⊢
        cases el : lookM mREADINGS' z with
        | none => rw [el] at h; cases h
        | some k =>
          rw [el] at h
          have h3 : (tupD y k k && (seqD y).all (fun x => readingD x m s)) = true := h
          rw [Bool.and_eq_true, List.all_eq_true] at h3
          show (tupD y k k && (seqD y).all (fun x => readingD x m' s)) = true
          rw [Bool.and_eq_true, List.all_eq_true]
          exact ⟨h3.1, fun x hx => reading_mono (h3.2 x hx) hm⟩
      | _ => cases h
theorem stepsAll_mono {ds : List PyData} {m m' : Int} {s : Nat} (h : stepsAllD ds m s = true) (hm : m ≤ m') : stepsAllD ds m' s = true :=
  stepsAll_of fun _ _ e => step_mono (stepsAll_at h e) hm
theorem stepsAll_take {ds : List PyData} {m : Int} {s n : Nat} (h : stepsAllD ds m s = true) : stepsAllD (ds.take n) m s = true :=
  stepsAll_of fun i d e => stepsAll_at h (by
    rw [List.getElem?_take] at e
    split at e
    · exact e
    · cases e)
theorem made_of {out : List Int} {m : Int} (pw : out.Pairwise (· < ·)) (hi : ∀ i ∈ out, 0 ≤ i ∧ i < m) (h1 : 1 ≤ out.length) (h3 : out.length ≤ 3) : madeD (.tuple (out.map .int)) m = true := by
  show (tupD (.tuple (out.map .int)) 1 3 && (out.map PyData.int).all (fun x => numD x 0 (m - 1)) && ascD (out.map .int)) = true
  rw [Bool.and_eq_true, Bool.and_eq_true]
  refine ⟨⟨?_, ?_⟩, asc_of fun j x y ex ey => ?_⟩
  · show (decide ((1 : Int) ≤ ((out.map PyData.int).length : Int)) && decide (((out.map PyData.int).length : Int) ≤ 3)) = true
    rw [List.length_map, decide_eq_true (by omega), decide_eq_true (by omega)]
    rfl
  · rw [List.all_eq_true]
    intro x hx
    obtain ⟨i, hi', rfl⟩ := List.mem_map.mp hx
    exact num_in (hi i hi').1 (hi i hi').2
  · rw [List.getElem?_map] at ex ey
    obtain ⟨i, ei, rfl⟩ := Option.map_eq_some_iff.mp ex
    obtain ⟨k, ek, rfl⟩ := Option.map_eq_some_iff.mp ey
    have hj := (List.getElem?_eq_some_iff.mp ei)
    have hk := (List.getElem?_eq_some_iff.mp ek)
    have := List.pairwise_iff_getElem.mp pw j (j + 1) hj.1 hk.1 (Nat.lt_succ_self j)
    rw [hj.2, hk.2] at this
    exact decide_eq_true this
theorem recipe_eq (t s m : PyData) : recipeD (.tuple [t, s, m]) = (thingsD t && (stepsD s ((seqD t).length : Int) && madeD m ((seqD s).length : Int))) := rfl
theorem steps_eq (ds : List PyData) (m : Int) : stepsD (.tuple ds) m = (tupD (.tuple ds) 1 8 && stepsAllD ds m 0) := rfl
theorem tup_in {ds : List PyData} {lo hi : Int} (h1 : lo ≤ (ds.length : Int)) (h2 : (ds.length : Int) ≤ hi) : tupD (.tuple ds) lo hi = true := by
  show (decide _ && decide _) = true
  rw [decide_eq_true h1, decide_eq_true h2]
  rfl
theorem smDs_ints : ∀ l : List Int, smDs (l.map PyData.int) = true
  | [] => rfl
  | _ :: r => by
    rw [List.map_cons, smDs, smDs_ints r]
    rfl
theorem sm_rec {t s m : PyData} (h1 : smD t = true) (h2 : smD s = true) (h3 : smD m = true) : smD (.tuple [t, s, m]) = true := by
  show (smD t && (smD s && (smD m && true))) = true
  rw [h1, h2, h3]
  rfl
theorem smDs_take : ∀ {ds : List PyData} {n : Nat}, smDs ds = true → smDs (ds.take n) = true
  | [], _, _ => by rw [List.take_nil]; rfl
  | _ :: _, 0, _ => rfl
  | d :: r, n + 1, h => by
    rw [smDs, Bool.and_eq_true] at h
    rw [List.take_succ_cons, smDs, h.1, smDs_take h.2]
    rfl
theorem smDs_cat : ∀ {ds es : List PyData}, smDs ds = true → smDs es = true → smDs (ds ++ es) = true
  | [], _, _, g => g
  | d :: r, es, h, g => by
    rw [smDs, Bool.and_eq_true] at h
    rw [List.cons_append, smDs, h.1, smDs_cat h.2 g]
    rfl

/-! ### some_recipe -/
/-- what the recipes that are drawn are like -/
structure RecG (d : PyData) (ts ss ms : List PyData) (mi : List Int) : Prop where
  eq : d = .tuple [.tuple ts, .tuple ss, .tuple ms]
  t1 : 1 ≤ ts.length
  t3 : ts.length ≤ 3
  tm : ∀ t ∈ ts, t ∈ menuA
  s1 : 1 ≤ ss.length
  s5 : ss.length ≤ 5
  st : stepsAllD ss (ts.length : Int) 0 = true
  sm : smDs ss = true
  me : ms = mi.map .int
  mp : mi.Pairwise (· < ·)
  mm : ∀ i ∈ mi, 0 ≤ i ∧ i < (ss.length : Int)
  m1 : 1 ≤ mi.length
  m2 : mi.length ≤ 2
  ml : ((ss.length : Int) - 1) ∈ mi
def spSomeRecipe (K : PySem.W.Frag) : Sp := fun vs H Q _ => ∃ (a st : Addr) (ns : List Int) (n : Nat), vs = [.ref a, .ref st] ∧ En K a st ns n H ∧ n + 100 < 100000 ∧
  ∀ (v : V) (d : PyData) (ts ss ms : List PyData) (mi : List Int) H', Tp H' v d → RecG d ts ss ms mi → Gx st H H' → En K a st ns (n + 60) H' → Q v H'
theorem prodD_le3 : ∀ {ds : List PyData}, (∀ t ∈ ds, t ∈ menuA) → prodD ds ≤ 3 ^ ds.length
  | [], _ => Nat.le_refl 1
  | d :: r, h => by
    obtain ⟨es, rfl, _, h3⟩ := menu_tup (h d List.mem_cons_self)
    have ih := prodD_le3 fun t ht => h t (List.mem_cons_of_mem _ ht)
    rw [prodD, List.length_cons, Nat.pow_succ, Nat.mul_comm]
    exact Nat.mul_le_mul ih h3
theorem RecG.recipe {d : PyData} {ts ss ms : List PyData} {mi : List Int} (G : RecG d ts ss ms mi) : recipeD d = true := by
  obtain ⟨rfl, t1, t3, tm, s1, s5, st, sm, rfl, mp, mm, m1, m2, ml⟩ := G
  have h1 : thingsD (.tuple ts) = true := by
    show (tupD (.tuple ts) 1 5 && ts.all thingD && decide (prodD ts ≤ 256)) = true
    have hp : prodD ts ≤ 3 ^ 3 := Nat.le_trans (prodD_le3 tm) (Nat.pow_le_pow_right (by decide) t3)
    rw [tup_in (by omega) (by omega), decide_eq_true (show prodD ts ≤ 256 by omega), List.all_eq_true.mpr fun t ht => (menu_all (tm t ht)).1]
    rfl
  rw [recipe_eq, h1, steps_eq, tup_in (by omega) (by omega)]
  show (true && ((true && stepsAllD ss (ts.length : Int) 0) && madeD (.tuple (mi.map .int)) (ss.length : Int))) = true
  rw [st, made_of mp mm m1 (by omega)]
  rfl
theorem RecG.small {d : PyData} {ts ss ms : List PyData} {mi : List Int} (G : RecG d ts ss ms mi) : smD d = true := by
  obtain ⟨rfl, t1, t3, tm, s1, s5, st, sm, rfl, mp, mm, m1, m2, ml⟩ := G
  exact sm_rec (smDs_all fun t ht => (menu_all (tm t ht)).2.1) sm (smDs_ints mi)
theorem rg_map (n : Nat) : rgV 0 (n : Int) = ((List.range n).map fun i => ((0 : Int) + (i : Nat))).map V.int := by
  unfold rgV
  rw [List.map_map, show ((n : Int) - 0).toNat = n by omega]
  rfl
theorem rg_nodup (n : Nat) : ((List.range n).map fun i => ((0 : Int) + (i : Nat))).Nodup := by
  refine List.Pairwise.map _ (fun a b h => ?_) List.nodup_range
  intro e
  exact h (by omega)
theorem stepsAll_snoc {ds : List PyData} {d : PyData} {m : Int} (h : stepsAllD ds m 0 = true) (g : stepD d m (ds.length : Int) = true) : stepsAllD (ds ++ [d]) m 0 = true := by
  refine stepsAll_of fun j x ej => ?_
  rw [show ((0 + j : Nat) : Int) = (j : Int) by omega]
  by_cases hj : j < ds.length
  · rw [List.getElem?_append_left hj] at ej
    have := stepsAll_at h ej
    rw [show ((0 + j : Nat) : Int) = (j : Int) by omega] at this
    exact this
  · rw [List.getElem?_append_right (by omega)] at ej
    have e0 : j - ds.length = 0 := by
      have := (List.getElem?_eq_some_iff.mp ej).1
      simp at this
      omega
    rw [e0] at ej
    cases ej
    rw [show (j : Int) = (ds.length : Int) by omega]
    exact g
section
variable {P : Program} {w : World} {K : PySem.W.Frag} {mg : Str → Option Value} {base : Heap}
theorem ok_some_recipe (T : Tx K mg w) : FnOk P w K mg base CX0 6 T.f__law_some_recipe T.d__law_some_recipe ["_law_script", "_law_state"] (spSomeRecipe K) := by
  have G_draw : FnOk P w K mg base CX0 3 T.f__law_draw T.d__law_draw ["_law_script", "_law_state", "_law_many"] (spDraw K) := ok_draw T
  have G_some_thing : FnOk P w K mg base CX0 5 T.f__law_some_thing T.d__law_some_thing ["_law_script", "_law_state"] (spSomeThing K) := ok_some_thing T
  have G_some_step : FnOk P w K mg base CX0 5 T.f__law_some_step T.d__law_some_step ["_law_script", "_law_state", "_law_things", "_law_count"] (spSomeStep K) := ok_some_step T
  have G_some_of : FnOk P w K mg base CX0 4 T.f__law_some_of T.d__law_some_of ["_law_script", "_law_state", "_law_some", "_law_count"] (spSomeOf K) := ok_some_of T
  refine T.F__law_some_recipe.ok sc_some_recipe (fun vs H Q E h => ?_) (fun cdv A outer s H vs Q E hr h => ?_)
  · obtain ⟨a, st, ns, n, rfl, _⟩ := h
    rfl
  · obtain ⟨a, st, ns, n, rfl, EN, hn, q⟩ := h
    refine ⟨_, (pss_cons (ps_set (i := 3) sc_some_recipe.nd rfl (Or.inl rfl) (pe_callTy call_tuple_of (by rfl) T.z_tuple (by decide +kernel) (pa_cons (pe_lc (own := [("_law_again", 2)]) (g := (gName 2)) (tt := tYes) rfl sc_some_recipe.nd (pi_range1 (by rfl) T.z_range (pa_cons (pe_op op_add pe_int (pe_call G_draw (hr.mono (by decide)) (by rfl) T.g__law_draw T.F__law_draw.kp T.b__law_draw .nil pass0 (pa_cons (pv 0) (pa_cons (pv 1) (pa_cons pe_int pa_nil))))) pa_nil)) (blkOk_by (own := [("_law_again", 2)]) (N := ["_law_script", "_law_state", "_law_again", "_law_things", "_law_steps", "_law_made"]) (sc := defScope s_some_recipe) (by decide +kernel)) (fun _ _ _ _ _ => (pg_name (i := 2) sc_some_recipe.nd rfl (Or.inl rfl))) (fun _ _ _ _ _ => pts_nil) (fun _ _ _ _ _ => (pe_call G_some_thing hr (by rfl) T.g__law_some_thing T.F__law_some_thing.kp T.b__law_some_thing .nil pass0 (pa_cons (pv 0) (pa_cons (pv 1) pa_nil))))) pa_nil)))
      (pss_cons (ps_set (i := 4) sc_some_recipe.nd rfl (Or.inl rfl) (pe_lst pa_nil))
      (pss_cons (ps_for PassesOwn.never rfl (pi_range1 (by rfl) T.z_range (pa_cons (pe_op op_add pe_int (pe_call G_draw (hr.mono (by decide)) (by rfl) T.g__law_draw T.F__law_draw.kp T.b__law_draw .nil pass0 (pa_cons (pv 0) (pa_cons (pv 1) (pa_cons pe_int pa_nil))))) pa_nil)) (pg_name (i := 2) sc_some_recipe.nd rfl (Or.inl rfl))
        (pss_one (ps_expr (pe_bm PySem.F.plainAttrs_list PySem.F.slot_list_append PySem.F.type_list_append mt_append (pv 4) (pa_cons (pe_call G_some_step hr (by rfl) T.g__law_some_step T.F__law_some_step.kp T.b__law_some_step .nil pass0 (pa_cons (pv 0) (pa_cons (pv 1) (pa_cons (pe_callB call_len_seq (by rfl) T.z_len PySem.boot_len (pa_cons (pv 3) pa_nil)) (pa_cons (pe_callB call_len_seq (by rfl) T.z_len PySem.boot_len (pa_cons (pv 4) pa_nil)) pa_nil))))) pa_nil)))))
      (pss_cons (ps_set (i := 5) sc_some_recipe.nd rfl (Or.inl rfl) (pe_call G_some_of (hr.mono (by decide)) (by rfl) T.g__law_some_of T.F__law_some_of.kp T.b__law_some_of .nil pass0 (pa_cons (pv 0) (pa_cons (pv 1) (pa_cons (pe_listRg rfl (by rfl) T.z_list (prg_1 (by rfl) T.z_range (pe_callB call_len_seq (by rfl) T.z_len PySem.boot_len (pa_cons (pv 4) pa_nil)))) (pa_cons (pe_call G_draw (hr.mono (by decide)) (by rfl) T.g__law_draw T.F__law_draw.kp T.b__law_draw .nil pass0 (pa_cons (pv 0) (pa_cons (pv 1) (pa_cons pe_int pa_nil)))) pa_nil))))))
      (pss_one (ps_ret (pe_tup (pa_cons (pv 3) (pa_cons (pe_callTy call_tuple_of (by rfl) T.z_tuple (by decide +kernel) (pa_cons (pv 4) pa_nil)) (pa_cons (pe_callTy call_tuple_of (by rfl) T.z_tuple (by decide +kernel) (pa_cons (pe_callB (cr_sortedSet rfl) (by rfl) T.z_sorted (by decide +kernel) (pa_cons (pe_callTy (cr_setTupI rfl) (by rfl) T.z_set (by decide +kernel) (pa_cons (pe_op op_catA (pv 5) (pe_tup (pa_cons (pe_op op_sub (pe_callB call_len_seq (by rfl) T.z_len PySem.boot_len (pa_cons (pv 4) pa_nil)) pe_int) pa_nil))) pa_nil)) pa_nil)) pa_nil)) pa_nil)))))))))), ?_⟩
    -- things
    refine ⟨_, rfl, _, rfl, a, st, ns, n, 3, rfl, EN, by omega, by decide, fun r1 H1 h10 h13 g1 E1 => ⟨_, _, rfl, rfl, _, rfl, by omega, by omega, fun L hL => ?_⟩⟩
    obtain ⟨k1, rfl⟩ : ∃ k : Nat, r1 = (k : Int) := ⟨r1.toNat, by omega⟩
    have hk1 : ((1 : Int) + (k1 : Int)).toNat = k1 + 1 := by omega
    rw [hk1]
    have nLs : L ≠ st := E1.st_ne hL
    have L0 : H L = none := g1.free EN.some_ E1.some_ hL
    refine lc_range (fun i H' => ∃ (acc : List V) (ts : List PyData), Gx st H H' ∧ En K a st ns (n + 1 + 2 * i) H' ∧ H' L = some (.lst acc) ∧ TpAll H' acc ts ∧ (∀ t ∈ ts, t ∈ menuA) ∧ ts.length = i) ⟨[], [], g1.trans (Gx.new hL), E1.lay hL, upd_same, .nil, (fun _ h => (by cases h)), rfl⟩ ?_ ?_
    · rintro i H' hi ⟨acc, ts, g, E, hA, hT, hm, hlen⟩
      refine ⟨rfl, ?_⟩
      dsimp only [tYes]
      rw [if_pos rfl]
      refine ⟨_, rfl, _, rfl, a, st, ns, _, rfl, E, by omega, fun v d H2 hd hdm g2 E2 => ?_⟩
      have hal : acc.length = ts.length := TpAll.len hT
      have hA2 := g2 L _ nLs hA
      have kt2 : KT H' (upd H2 L (.lst (acc ++ [v]))) := fun b xs e => by
        have e2 := E.kt g2 b xs e
        rw [upd_ne (ne_of e2 hA2 (by intro z; cases z))]
        exact e2
      have kt3 : KT H2 (upd H2 L (.lst (acc ++ [v]))) := fun b xs e => by
        rw [upd_ne (ne_of e hA2 (by intro z; cases z))]
        exact e
      refine ⟨acc, hA2, Nat.lt_of_le_of_lt (show acc.length ≤ 100000 by omega) (by decide), acc ++ [v], ts ++ [d], (g.trans g2).mut L0, ?_, upd_same, TpAll.app (TpAll.mono kt2 _ _ hT) (.cons (Tp.mono kt3 _ _ hd) .nil), fun t ht => ?_, by rw [List.length_append, hlen]; rfl⟩
      · obtain ⟨zs, ez, hz⟩ := E2.zs
        exact EN.next ((g.trans g2).mut L0) ⟨zs, by rw [upd_ne nLs.symm]; exact ez, by omega⟩ (by omega)
      · rcases List.mem_append.mp ht with h | h
        · exact hm t h
        · rw [List.mem_singleton.mp h]
          exact hdm
    rintro H2 ⟨acc, ts, g2, E2, hA, hT, hm, hlen⟩
    refine ⟨L, acc, rfl, .inl ⟨SqL.of hA, fun tp htp => ?_⟩⟩
    have tT : Tp (upd H2 tp (.tup acc)) (.ref tp) (.tuple ts) := .tup upd_same (TpAll.mono (KT.of (same_new htp)) _ _ hT)
    have etp : (upd H2 tp (.tup acc)) tp = some (.tup acc) := upd_same
    have E3 := E2.lay (o := .tup acc) htp
    have g3 : Gx st H (upd H2 tp (.tup acc)) := g2.trans (Gx.new htp)
    have hal : acc.length = ts.length := TpAll.len hT
    generalize (upd H2 tp (.tup acc)) = H3 at tT etp E3 g3 ⊢
    -- steps = []
    refine ⟨Nat.zero_le _, fun S hS => ?_⟩
    have nSs : S ≠ st := E3.st_ne hS
    have S0 : H S = none := g3.free EN.some_ E3.some_ hS
    have E4 := E3.lay (o := .lst []) hS
    have g4 : Gx st H (upd H3 S (.lst [])) := g3.trans (Gx.new hS)
    have kt34 : KT H3 (upd H3 S (.lst [])) := KT.of (same_new hS)
    have hS4 : (upd H3 S (.lst [])) S = some (.lst []) := upd_same
    have ntS : tp ≠ S := ne_of_none etp hS
    have etp4 : (upd H3 S (.lst [])) tp = some (.tup acc) := kt34 _ _ etp
    have tT4 := Tp.mono kt34 _ _ tT
    generalize (upd H3 S (.lst [])) = H4 at E4 g4 hS4 etp4 tT4 ⊢
    refine ⟨_, rfl, _, rfl, a, st, ns, _, 5, rfl, E4, by omega, by decide, fun r5 H5 h50 h55 g5 E5 => ⟨_, _, rfl, rfl, _, rfl, by omega, by omega, ?_⟩⟩
    obtain ⟨k5, rfl⟩ : ∃ k : Nat, r5 = (k : Int) := ⟨r5.toNat, by omega⟩
    have hk5 : ((1 : Int) + (k5 : Int)).toNat = k5 + 1 := by omega
    rw [hk5]
    refine for_range (fun i σ H' => ∃ (vs : List V) (ss : List PyData) (u : Option V), σ = [some (.ref a), some (.ref st), u, some (.ref tp), some (.ref S), none] ∧ Gx st H H' ∧ KT H5 H' ∧ En K a st ns (n + 10 + 7 * i) H' ∧ H' S = some (.lst vs) ∧ TpAll H' vs ss ∧ stepsAllD ss (ts.length : Int) 0 = true ∧ smDs ss = true ∧ ss.length = i)
      ⟨[], [], none, rfl, g4.trans g5, fun _ _ h => h, E5.more (by omega) (by omega), g5 S _ nSs hS4, .nil, rfl, rfl, rfl⟩ ?_ ?_
    · rintro i σ H' hi ⟨vs, ss, u, rfl, g, kt, E, hV, hTs, hst, hsm, hsl⟩
      have hvl : vs.length = ss.length := TpAll.len hTs
      have etp5 : H' tp = some (.tup acc) := kt _ _ (E4.kt g5 _ _ etp4)
      refine ⟨_, rfl, .inl ⟨rfl, _, SqL.of hV⟩, _, rfl, _, rfl, _, rfl, tp, acc, rfl, .inr (SqT.of etp5), _, rfl, S, vs, rfl, .inl (SqL.of hV), a, st, ns, _, _, _, rfl, E, by omega, by omega, by omega, fun v d H6 hd hstd hsmd g6 E6 => ?_⟩
      have hV6 := g6 S _ nSs hV
      have kt6 : KT H6 (upd H6 S (.lst (vs ++ [v]))) := fun b xs e => by
        rw [upd_ne (ne_of e hV6 (by intro z; cases z))]
        exact e
      refine ⟨S, vs, v, rfl, rfl, hV6, Nat.lt_of_le_of_lt (show vs.length ≤ 100000 by omega) (by decide), ?_⟩
      refine ⟨vs ++ [v], ss ++ [d], _, rfl, (g.trans g6).mut S0, (kt.trans (E.kt g6)).trans kt6, ?_, upd_same, TpAll.app (TpAll.mono ((E.kt g6).trans kt6) _ _ hTs) (.cons (Tp.mono kt6 _ _ hd) .nil), stepsAll_snoc hst ?_, smDs_app hsm hsmd, by rw [List.length_append, hsl]; rfl⟩
      · obtain ⟨zs, ez, hz⟩ := E6.zs
        exact EN.next ((g.trans g6).mut S0) ⟨zs, by rw [upd_ne nSs.symm]; exact ez, by omega⟩ (by omega)
      · rw [hal, hvl] at hstd
        exact hstd
    rintro σ H6 ⟨vs, ss, u, rfl, g6, kt6, E6, hV, hTs, hst, hsm, hsl⟩
    have hvl : vs.length = ss.length := TpAll.len hTs
    -- made = some_of(.., list(range(len(steps))), draw(.., 2))
    refine ⟨_, rfl, _, rfl, _, rfl, S, vs, rfl, .inl (SqL.of hV), (vs.length : Int), rfl, RgOk.of_le (by decide) (by omega) (by decide) (by omega), fun R hR => ?_⟩
    have E7 := E6.lay (o := .lst (rgV 0 (vs.length : Int))) hR
    have g7 := g6.trans (Gx.new (st := st) (o := .lst (rgV 0 (vs.length : Int))) hR)
    have nRs : R ≠ st := E6.st_ne hR
    have hV7 : (upd H6 R (.lst (rgV 0 (vs.length : Int)))) S = some (.lst vs) := same_new hR _ _ hV
    have hR7 : (upd H6 R (.lst (rgV 0 (vs.length : Int)))) R = some (.lst (rgV 0 (vs.length : Int))) := upd_same
    have kt7 : KT H6 (upd H6 R (.lst (rgV 0 (vs.length : Int)))) := KT.of (same_new hR)
    generalize (upd H6 R (.lst (rgV 0 (vs.length : Int)))) = H7 at E7 g7 hV7 hR7 kt7 ⊢
    refine ⟨_, rfl, _, rfl, a, st, ns, _, 2, rfl, E7, by omega, by decide, fun r2 H8 h20 h22 g8 E8 => ?_⟩
    obtain ⟨k2, rfl⟩ : ∃ k : Nat, r2 = (k : Int) := ⟨r2.toNat, by omega⟩
    have hR8 : H8 R = some (.lst (((List.range vs.length).map fun i => ((0 : Int) + (i : Nat))).map V.int)) := by rw [← rg_map]; exact g8 R _ nRs hR7
    refine ⟨a, st, R, ns, _, k2, _, rfl, E8, by omega, hR8, rg_nodup _, by rw [List.length_map, List.length_range]; omega, fun out mp H9 pw mem hol g9 E9 hmp => ?_⟩
    rw [List.length_map, List.length_range] at hol
    have hV9 : H9 S = some (.lst vs) := g9 S _ nSs (g8 S _ nSs hV7)
    have kt69 : KT H6 H9 := (kt7.trans (E7.kt g8)).trans (E8.kt g9)
    have tT9 : Tp H9 (.ref tp) (.tuple ts) := Tp.mono (((E4.kt g5).trans kt6).trans kt69) _ _ tT4
    have hmem : ∀ i ∈ out, 0 ≤ i ∧ i < (vs.length : Int) := fun i hi => by
      obtain ⟨j, hj, e⟩ := List.mem_map.mp (mem i hi)
      have := List.mem_range.mp hj
      omega
    -- the recipe
    refine ⟨_, rfl, _, rfl, S, vs, rfl, .inl ⟨SqL.of hV9, fun sp hsp => ?_⟩⟩
    have s10 : Same H9 (upd H9 sp (.tup vs)) := same_new hsp
    have tS : Tp (upd H9 sp (.tup vs)) (.ref sp) (.tuple ss) := .tup upd_same (TpAll.mono (kt69.trans (KT.of s10)) _ _ hTs)
    generalize (upd H9 sp (.tup vs)) = H10 at s10 tS ⊢
    refine ⟨_, rfl, _, rfl, S, vs, rfl, .inl (SqL.of (s10 _ _ hV9)), _, _, rfl, rfl, by show 1 ≤ sizeLine; decide, fun l1 hl1 => ?_⟩
    have s11 : Same H10 (upd H10 l1 (.tup [.int ((vs.length : Int) - 1)])) := same_new hl1
    have hl1' : (upd H10 l1 (.tup [.int ((vs.length : Int) - 1)])) l1 = some (.tup [.int ((vs.length : Int) - 1)]) := upd_same
    generalize (upd H10 l1 (.tup [.int ((vs.length : Int) - 1)])) = H11 at s11 hl1' ⊢
    have hmp11 : H11 mp = some (.tup (out.map V.int)) := s11 _ _ (s10 _ _ hmp)
    have hsz : (out.map V.int).length + [V.int ((vs.length : Int) - 1)].length ≤ sizeLine := by
      rw [List.length_map]
      exact Nat.le_trans (show out.length + 1 ≤ 100000 by omega) (by decide)
    -- what is left once the tuple stands
    have fin : ∀ (c : Addr) (H12 : Hp), Same H11 H12 → H12 c = some (.tup ((out ++ [(vs.length : Int) - 1]).map V.int)) → rSetTupI K w [.ref c] H12 fun x H' => tNil [some (.ref a), some (.ref st), u, some (.ref tp), some (.ref S), some (.ref mp)] H' fun xs H2 => rSortedSet w (x :: xs) H2 fun x H' => tNil [some (.ref a), some (.ref st), u, some (.ref tp), some (.ref S), some (.ref mp)] H' fun xs H2 => ∃ p ys, x :: xs = [V.ref p] ∧ ((SqL K H2 p ys ∧ ∀ l, H2 l = none → tNil [some (.ref a), some (.ref st), u, some (.ref tp), some (.ref S), some (.ref mp)] (upd H2 l (.tup ys)) fun xs H2 => [V.ref tp, V.ref sp, V.ref l].length ≤ sizeLine ∧ ∀ p, H2 p = none → Q (.ref p) (upd H2 p (.tup (V.ref tp :: V.ref sp :: V.ref l :: xs)))) ∨ (SqT K H2 p ys ∧ tNil [some (.ref a), some (.ref st), u, some (.ref tp), some (.ref S), some (.ref mp)] H2 fun xs H2 => [V.ref tp, V.ref sp, V.ref p].length ≤ sizeLine ∧ ∀ q, H2 q = none → Q (.ref q) (upd H2 q (.tup (V.ref tp :: V.ref sp :: V.ref p :: xs))))) := by
      intro c H12 s12 hc
      refine ⟨c, _, rfl, SqT.of hc, by rw [List.length_append, List.length_singleton]; omega, fun z cn hz hcn => ⟨z, _, cn, rfl, upd_same, ?_, fun mi l hpw hmi hml hl => ?_⟩⟩
      · rw [List.length_append, List.length_singleton] at hcn
        omega
      refine ⟨l, _, rfl, .inl ⟨SqL.of upd_same, fun t hlt => ⟨by show 3 ≤ sizeLine; decide, fun rp hrp => ?_⟩⟩⟩
      have s13 : Same H12 (upd H12 z (SetO w z (fun j => decide (j ∈ out ++ [(vs.length : Int) - 1])) cn)) := same_new hz
      have s14 := same_new (o := .lst (mi.map V.int)) hl
      have s15 := same_new (o := .tup (mi.map V.int)) hlt
      have s16 := same_new (o := .tup [.ref tp, .ref sp, .ref t]) hrp
      have sA : Same H11 (upd (upd (upd (upd H12 z (SetO w z (fun j => decide (j ∈ out ++ [(vs.length : Int) - 1])) cn)) l (.lst (mi.map V.int))) t (.tup (mi.map V.int))) rp (.tup [.ref tp, .ref sp, .ref t])) := (((s12.trans s13).trans s14).trans s15).trans s16
      have s9 : Same H9 (upd (upd (upd (upd H12 z (SetO w z (fun j => decide (j ∈ out ++ [(vs.length : Int) - 1])) cn)) l (.lst (mi.map V.int))) t (.tup (mi.map V.int))) rp (.tup [.ref tp, .ref sp, .ref t])) := (s10.trans s11).trans sA
      have em : ∀ k, k ∈ mi ↔ k ∈ out ++ [(vs.length : Int) - 1] := fun k => by rw [hmi k, decide_eq_true_eq]
      refine q (.ref rp) (.tuple [.tuple ts, .tuple ss, .tuple (mi.map .int)]) ts ss (mi.map .int) mi _ ?_ ?_ ?_ ?_
      · exact .tup upd_same (.cons (Tp.mono (KT.of s9) _ _ tT9) (.cons (Tp.mono (KT.of (s11.trans sA)) _ _ tS) (.cons (.tup (s16 _ _ upd_same) (TpAll.ints mi)) .nil)))
      · refine ⟨rfl, by omega, by omega, hm, by omega, by omega, hst, hsm, rfl, hpw, fun i hi => ?_, ?_, ?_, ?_⟩
        · rcases List.mem_append.mp ((em i).mp hi) with h | h
          · have := hmem i h
            omega
          · have := List.mem_singleton.mp h
            omega
        · exact List.length_pos_of_mem ((em _).mpr (List.mem_append_right _ List.mem_cons_self))
        · rw [hml]
          rw [List.length_append, List.length_singleton] at hcn
          omega
        · rw [show (ss.length : Int) = (vs.length : Int) by omega]
          exact (em _).mpr (List.mem_append_right _ List.mem_cons_self)
      · exact ((g7.trans g8).trans g9).trans (.of s9)
      · refine (E9.next (.of s9) ?_ E9.small).more (by omega) (by omega)
        obtain ⟨zs, ez, hz⟩ := E9.zs
        exact ⟨zs, s9 _ _ ez, hz⟩
    refine ⟨mp, l1, out.map V.int, [.int ((vs.length : Int) - 1)], rfl, rfl, SqT.of hmp11, SqT.of hl1', hsz, fun e => ?_, fun _ e => (by cases e), fun _ _ p hp => ?_⟩
    · have e0 : out = [] := by
        cases out with
        | nil => rfl
        | cons _ _ => cases e
      refine fin l1 H11 (Same.refl _) ?_
      rw [e0]
      exact hl1'
    · refine fin p _ (same_new hp) ?_
      rw [upd_same, List.map_append]
      rfl
end

/-! ### the law: recipes, and what is none -/
def owns1 (ms : List PyData) (ml n : Int) : List PyData := [.tuple [], .tuple [.int ml, .int ml], .tuple [.int n], .tuple [.int (-1)], .tuple [.bool false], .none, .tuple (ms ++ [.int 0])]
def owns2 : List PyData := [.tuple [], .tuple [.tuple [.str "b", .str "a"]], .tuple [.tuple [.str "a", .str "a"]], .tuple [.tuple [.str "abcde"]], .tuple [.tuple [.str "A"]], .tuple [.tuple [.str "a1"]], .tuple [.tuple []], .tuple [.tuple [.int 5]], .tuple [.str "a"], .tuple [.list [.str "a"]]]
def owns3 (m n : Int) : List PyData := ([.tuple [.str "join", .tuple [.tuple [.str "thing", .int 0]]], .tuple [.str "glue", .tuple (repD 2 [.tuple [.str "thing", .int 0]])], .tuple [.str "sort", .tuple [.tuple [.str "thing", .int m]]]]
  ++ [.tuple [.str "sort", .tuple [.tuple [.str "step", .int (n - 1)]]], .tuple [.str "sort", .list [.tuple [.str "thing", .int 0]]], .tuple [.str "sort", .tuple [.tuple [.str "world", .int 0]]]])
  ++ [.tuple [.str "sort", .tuple [.tuple [.str "thing", .bool true]]], .list [.str "sort", .tuple [.tuple [.str "thing", .int 0]]], .tuple [.str "sort", .tuple [.tuple [.str "thing"]]]]
def bad1 (ts ss ms : List PyData) : List PyData := [.list [.tuple ts, .tuple ss, .tuple ms], .tuple (cutD [.tuple ts, .tuple ss, .tuple ms] none (some 2)), .tuple ([.tuple ts, .tuple ss, .tuple ms] ++ [.tuple []]), .tuple [.list ts, .tuple ss, .tuple ms], .none]
def bad2 (ts ss ms : List PyData) : List PyData := [.tuple [.tuple ts, .list ss, .tuple ms], .tuple [.tuple ts, .tuple ss, .list ms]]
def bad3 (ts ss : List PyData) (o : PyData) : PyData := .tuple [.tuple ts, .tuple ss, o]
def bad4 (n : Int) (ss ms : List PyData) (o : PyData) : PyData := .tuple [.tuple (repD n.toNat (seqD o)), .tuple ss, .tuple ms]
def bad5 (ts ss0 ms : List PyData) (o : PyData) : PyData := .tuple [.tuple ts, .tuple (ss0 ++ [o]), .tuple ms]
theorem made_no {o : PyData} {t : PyData} {ss : List PyData} (h : madeD o (ss.length : Int) = false) : recipeD (.tuple [t, .tuple ss, o]) = false := by
  rw [recipe_eq]
  show (thingsD t && (stepsD (.tuple ss) _ && madeD o (ss.length : Int))) = false
  rw [h, Bool.and_false, Bool.and_false]
theorem made_one {i n : Int} (h : numD (.int i) 0 (n - 1) = false) : madeD (.tuple [.int i]) n = false := by
  show (tupD (.tuple [.int i]) 1 3 && ((numD (.int i) 0 (n - 1)) && true) && ascD [.int i]) = false
  rw [h]
  rfl
theorem owns1_no {mi0 : List Int} {ml : Int} {ss : List PyData} (h0 : 0 ≤ ml) (t : PyData) : ∀ o ∈ owns1 ((mi0 ++ [ml]).map .int) ml (ss.length : Int), recipeD (.tuple [t, .tuple ss, o]) = false := by
  intro o ho
  refine made_no ?_
  simp only [owns1, List.mem_cons, List.not_mem_nil, or_false] at ho
  rcases ho with rfl | rfl | rfl | rfl | rfl | rfl | rfl
  · rfl
  · show (tupD _ 1 3 && _ && ((decide (ml < ml)) && true)) = false
    rw [decide_eq_false (Int.lt_irrefl _), Bool.false_and, Bool.and_false]
  · refine made_one ?_
    show (decide (0 ≤ (ss.length : Int)) && decide ((ss.length : Int) ≤ (ss.length : Int) - 1)) = false
    rw [decide_eq_false (show ¬ (ss.length : Int) ≤ (ss.length : Int) - 1 by omega), Bool.and_false]
  · exact made_one rfl
  · show (tupD _ 1 3 && (false && true) && _) = false
    rfl
  · rfl
  · have e : ascD ((mi0 ++ [ml]).map PyData.int ++ [.int 0]) = false := by
      refine asc_not (j := mi0.length) (x := .int ml) (y := .int 0) ?_ ?_ ?_
      · rw [List.map_append, List.append_assoc, List.getElem?_append_right (by rw [List.length_map]; exact Nat.le_refl _), List.length_map, Nat.sub_self]
        rfl
      · rw [List.getElem?_append_right (by rw [List.length_map, List.length_append]; exact Nat.le_refl _), List.length_map, List.length_append]
        simp
      · show decide (ml < 0) = false
        exact decide_eq_false (by omega)
    show (tupD _ 1 3 && _ && ascD ((mi0 ++ [ml]).map PyData.int ++ [.int 0])) = false
    rw [e, Bool.and_false]
theorem rep_none {n : Int} {x : PyData} {r : List PyData} (h1 : 1 ≤ n) (hx : thingD x = false) : thingsD (.tuple (repD n.toNat (x :: r))) = false := by
  obtain ⟨k, e⟩ : ∃ k : Nat, n.toNat = k + 1 := ⟨n.toNat - 1, by omega⟩
  show (tupD _ 1 5 && (repD n.toNat (x :: r)).all thingD && _) = false
  unfold repD
  rw [e, List.replicate_succ, List.flatten_cons, List.cons_append, List.all_cons, hx, Bool.false_and, Bool.and_false, Bool.false_and]
theorem owns2_no {n : Int} (h1 : 1 ≤ n) (s m : PyData) : ∀ o ∈ owns2, recipeD (.tuple [.tuple (repD n.toNat (seqD o)), s, m]) = false := by
  intro o ho
  have h : thingsD (.tuple (repD n.toNat (seqD o))) = false := by
    simp only [owns2, List.mem_cons, List.not_mem_nil, or_false] at ho
    rcases ho with rfl | rfl | rfl | rfl | rfl | rfl | rfl | rfl | rfl | rfl
    · have e : repD n.toNat (seqD (.tuple [])) = [] := by
        show (List.replicate n.toNat ([] : List PyData)).flatten = []
        generalize n.toNat = j
        induction j with
        | zero => rfl
        | succ j ih => rw [List.replicate_succ, List.flatten_cons, ih]; rfl
      rw [e]
      rfl
    · exact rep_none h1 (by decide +kernel)
    · exact rep_none h1 (by decide +kernel)
    · exact rep_none h1 (by decide +kernel)
    · exact rep_none h1 (by decide +kernel)
    · exact rep_none h1 (by decide +kernel)
    · exact rep_none h1 (by decide +kernel)
    · exact rep_none h1 (by decide +kernel)
    · exact rep_none h1 (by decide +kernel)
    · exact rep_none h1 (by decide +kernel)
  rw [recipe_eq, h, Bool.false_and]
theorem steps_no {o : PyData} {ss0 : List PyData} {m : Int} (h : stepD o m (ss0.length : Int) = false) : stepsD (.tuple (ss0 ++ [o])) m = false := by
  rw [steps_eq]
  cases q : stepsAllD (ss0 ++ [o]) m 0 with
  | false => rw [Bool.and_false]
  | true =>
    have e : (ss0 ++ [o])[ss0.length]? = some o := by simp
    have := stepsAll_at q e
    rw [show ((0 + ss0.length : Nat) : Int) = (ss0.length : Int) by omega, h] at this
    cases this
theorem step_eq (z : Str) (y : PyData) (m s : Int) : stepD (.tuple [.str z, y]) m s = match lookM mREADINGS' z with
    | some k => tupD y k k && (seqD y).all (fun x => readingD x m s)
    | none => false := rfl
theorem sort_no {y : PyData} {m s : Int} (h : (tupD y 1 1 && (seqD y).all (fun x => readingD x m s)) = false) : stepD (.tuple [.str "sort", y]) m s = false := by
  rw [step_eq, show lookM mREADINGS' "sort" = some 1 by decide +kernel]
  exact h
theorem read_no {d : PyData} {m s : Int} (h : readingD d m s = false) : (tupD (.tuple [d]) 1 1 && (seqD (.tuple [d])).all (fun x => readingD x m s)) = false := by
  show (_ && (readingD d m s && true)) = false
  rw [h, Bool.false_and, Bool.and_false]
theorem owns3_no {m n : Int} {ss0 : List PyData} (hn : n = (ss0.length : Int) + 1) (t o' : PyData) : ∀ o ∈ owns3 m n, stepD o m (ss0.length : Int) = false := by
  intro o ho
  simp only [owns3, List.cons_append, List.nil_append, List.mem_cons, List.not_mem_nil, or_false] at ho
  rcases ho with rfl | rfl | rfl | rfl | rfl | rfl | rfl | rfl | rfl
  · rw [step_eq, show lookM mREADINGS' "join" = some 2 by decide +kernel]
    rfl
  · rw [step_eq, show lookM mREADINGS' "glue" = none by decide +kernel]
  · refine sort_no (read_no ?_)
    rw [reading_eq, if_pos rfl]
    show (decide (0 ≤ m) && decide (m ≤ m - 1)) = false
    rw [decide_eq_false (show ¬ m ≤ m - 1 by omega), Bool.and_false]
  · refine sort_no (read_no ?_)
    rw [reading_eq, if_neg (by decide +kernel)]
    show (_ && (decide (0 ≤ n - 1) && decide (n - 1 ≤ (ss0.length : Int) - 1))) = false
    rw [decide_eq_false (show ¬ n - 1 ≤ (ss0.length : Int) - 1 by omega), Bool.and_false, Bool.and_false]
  · exact sort_no rfl
  · refine sort_no (read_no ?_)
    rw [reading_eq, if_neg (by decide +kernel), decide_eq_false (by decide +kernel), Bool.false_and]
  · refine sort_no (read_no ?_)
    rw [reading_eq, if_pos rfl]
    rfl
  · rfl
  · exact sort_no (read_no rfl)
theorem steps_bad {o : PyData} {ts ss0 : List PyData} {m : PyData} (h : stepD o (ts.length : Int) (ss0.length : Int) = false) : recipeD (.tuple [.tuple ts, .tuple (ss0 ++ [o]), m]) = false := by
  rw [recipe_eq]
  show (_ && (stepsD (.tuple (ss0 ++ [o])) (ts.length : Int) && _)) = false
  rw [steps_no h, Bool.false_and, Bool.and_false]
def bads1 (ts ss0 : List PyData) (last : PyData) (ld : List PyData) (mi0 : List Int) (ml : Int) : List PyData :=
  (((((bad1 ts (ss0 ++ [last]) ((mi0 ++ [ml]).map .int) ++ bad2 ts (ss0 ++ [last]) ((mi0 ++ [ml]).map .int)) ++ (owns1 ((mi0 ++ [ml]).map .int) ml ((ss0 ++ [last]).length : Int)).map (bad3 ts (ss0 ++ [last])))
    ++ owns2.map (bad4 (ts.length : Int) (ss0 ++ [last]) ((mi0 ++ [ml]).map .int))) ++ (owns3 (ts.length : Int) ((ss0 ++ [last]).length : Int)).map (bad5 ts ss0 ((mi0 ++ [ml]).map .int)))
    ++ [.tuple [.tuple ts, .tuple (ss0 ++ [.tuple (ld ++ [.int 0])]), .tuple ((mi0 ++ [ml]).map .int)]])
    ++ [.tuple [.tuple ts, .tuple ((ss0 ++ [last]) ++ [.tuple [.str "sort", .tuple [.tuple [.str "thing", .int (-1)]]]]), .tuple ((mi0 ++ [ml]).map .int)]]
theorem cut2 (a b c : PyData) : cutD [a, b, c] none (some 2) = [a, b] := rfl
theorem smDs_of {ds : List PyData} (h : smDs ds = true) : ∀ d ∈ ds, smD d = true := fun d hd => by
  obtain ⟨i, e⟩ := List.getElem?_of_mem hd
  exact smDs_get h e
theorem smDs_rep {xs : List PyData} (h : smDs xs = true) : ∀ k, smDs (repD k xs) = true
  | 0 => rfl
  | k + 1 => by
    unfold repD
    rw [List.replicate_succ, List.flatten_cons]
    exact smDs_cat h (smDs_rep h k)
theorem k01_math {ts ss0 : List PyData} {last : PyData} {ld : List PyData} {mi0 : List Int} {ml : Int} (hl : last = .tuple ld) (hld : ld.length = 2) (h0 : 0 ≤ ml) (ht1 : 1 ≤ ts.length) (sT : smDs ts = true) (sS : smDs (ss0 ++ [last]) = true) :
    (∀ d ∈ bads1 ts ss0 last ld mi0 ml, smD d = true) ∧ (∀ d ∈ bads1 ts ss0 last ld mi0 ml, recipeD d = false) := by
  have sM : smDs ((mi0 ++ [ml]).map PyData.int) = true := smDs_ints _
  have s0 : smDs ss0 = true := smDs_all fun d hd => smDs_of sS d (List.mem_append_left _ hd)
  have sL : smD last = true := smDs_of sS last (List.mem_append_right _ List.mem_cons_self)
  have one : ∀ {o : PyData}, smD o = true → smDs [o] = true := fun {o} h => by show (smD o && true) = true; rw [h]; rfl
  constructor
  · intro d hd
    simp only [bads1, List.mem_append, List.mem_singleton] at hd
    rcases hd with ((((((hd | hd) | hd) | hd) | hd) | rfl) | rfl)
    · simp only [bad1, cut2, List.cons_append, List.nil_append, List.mem_cons, List.not_mem_nil, or_false] at hd
      rcases hd with rfl | rfl | rfl | rfl | rfl
      · exact sm_rec sT sS sM
      · show (smDs ts && (smDs (ss0 ++ [last]) && true)) = true
        rw [sT, sS]
        rfl
      · show (smDs ts && (smDs (ss0 ++ [last]) && (smDs ((mi0 ++ [ml]).map PyData.int) && (true && true)))) = true
        rw [sT, sS, sM]
        rfl
      · exact sm_rec sT sS sM
      · rfl
    · simp only [bad2, List.mem_cons, List.not_mem_nil, or_false] at hd
      rcases hd with rfl | rfl
      · exact sm_rec sT sS sM
      · exact sm_rec sT sS sM
    · obtain ⟨o, ho, rfl⟩ := List.mem_map.mp hd
      refine sm_rec sT sS ?_
      simp only [owns1, List.mem_cons, List.not_mem_nil, or_false] at ho
      rcases ho with rfl | rfl | rfl | rfl | rfl | rfl | rfl
      · rfl
      · rfl
      · rfl
      · rfl
      · rfl
      · rfl
      · exact smDs_app sM rfl
    · obtain ⟨o, ho, rfl⟩ := List.mem_map.mp hd
      refine sm_rec ?_ sS sM
      refine smDs_rep ?_ _
      simp only [owns2, List.mem_cons, List.not_mem_nil, or_false] at ho
      rcases ho with rfl | rfl | rfl | rfl | rfl | rfl | rfl | rfl | rfl | rfl <;> decide +kernel
    · obtain ⟨o, ho, rfl⟩ := List.mem_map.mp hd
      refine sm_rec sT (smDs_cat s0 (one ?_)) sM
      simp only [owns3, List.cons_append, List.nil_append, List.mem_cons, List.not_mem_nil, or_false] at ho
      rcases ho with rfl | rfl | rfl | rfl | rfl | rfl | rfl | rfl | rfl <;> rfl
    · refine sm_rec sT (smDs_cat s0 (one ?_)) sM
      show smDs (ld ++ [.int 0]) = true
      refine smDs_app ?_ rfl
      rw [hl] at sL
      exact sL
    · exact sm_rec sT (smDs_cat sS (one (by decide +kernel))) sM
  · intro d hd
    simp only [bads1, List.mem_append, List.mem_singleton] at hd
    rcases hd with ((((((hd | hd) | hd) | hd) | hd) | rfl) | rfl)
    · simp only [bad1, cut2, List.cons_append, List.nil_append, List.mem_cons, List.not_mem_nil, or_false] at hd
      rcases hd with rfl | rfl | rfl | rfl | rfl
      · rfl
      · rfl
      · rfl
      · rw [recipe_eq]
        rfl
      · rfl
    · simp only [bad2, List.mem_cons, List.not_mem_nil, or_false] at hd
      rcases hd with rfl | rfl
      · rw [recipe_eq]
        show (_ && (false && _)) = false
        rw [Bool.false_and, Bool.and_false]
      · rw [recipe_eq]
        show (_ && (_ && false)) = false
        rw [Bool.and_false, Bool.and_false]
    · obtain ⟨o, ho, rfl⟩ := List.mem_map.mp hd
      exact owns1_no h0 _ o ho
    · obtain ⟨o, ho, rfl⟩ := List.mem_map.mp hd
      exact owns2_no (by omega) _ _ o ho
    · obtain ⟨o, ho, rfl⟩ := List.mem_map.mp hd
      exact steps_bad (owns3_no (by rw [List.length_append, List.length_singleton]; omega) .none .none o ho)
    · refine steps_bad ?_
      match ld, hld with
      | [x, y], _ =>
        cases x with
        | str z => rfl
        | _ => rfl
    · refine steps_bad ?_
      refine sort_no (read_no ?_)
      rw [reading_eq, if_pos rfl]
      rfl
section
variable {P : Program} {w : World} {K : PySem.W.Frag} {mg : Str → Option Value} {base : Heap}
theorem ok_law (T : Tx K mg w) : FnOk P w K mg base CX0 7 T.f_law T.d_law ["_law_script"] (spLaw K) := by
  have G_some_recipe : FnOk P w K mg base CX0 6 T.f__law_some_recipe T.d__law_some_recipe ["_law_script", "_law_state"] (spSomeRecipe K) := ok_some_recipe T
  have G_is_recipe : FnOk P w K mg base CX0 5 T.f_is_recipe T.d_is_recipe ["value"] (spRecipe K) := ok_is_recipe T
  refine T.F_law.ok sc_law (fun vs H Q E h => ?_) (fun cdv A outer s H vs Q E hr h => ?_)
  · obtain ⟨a, ns, rfl, _⟩ := h
    rfl
  · obtain ⟨a, ns, rfl, hO, hS, hl, q⟩ := h
    refine ⟨_, (pss_cons (ps_set (i := 1) sc_law.nd rfl (Or.inl rfl) (pe_lst pa_nil))
      (pss_cons (ps_set (i := 2) sc_law.nd rfl (Or.inl rfl) (pe_call G_some_recipe hr (by rfl) T.g__law_some_recipe T.F__law_some_recipe.kp T.b__law_some_recipe .nil pass0 (pa_cons (pv 0) (pa_cons (pv 1) pa_nil))))
      (pss_cons (ps_asg (pv 2) (pg_tup rfl (pgs_cons (pg_name (i := 3) sc_law.nd rfl (Or.inr rfl)) (pgs_cons (pg_name (i := 4) sc_law.nd rfl (Or.inr rfl)) (pgs_cons (pg_name (i := 5) sc_law.nd rfl (Or.inr rfl)) pgs_nil)))))
      (pss_cons (ps_if (pt_cmpR op_notBl (pe_call G_is_recipe (hr.mono (by decide)) (by rfl) T.g_is_recipe T.F_is_recipe.kp T.b_is_recipe .nil pass0 (pa_cons (pv 2) pa_nil)) pe_bl (nomark _)) (pss_one (ps_ret pe_bl)) pss_nil)
      (pss_cons (ps_set (i := 6) sc_law.nd rfl (Or.inl rfl) (pe_callB call_len_seq (by rfl) T.z_len PySem.boot_len (pa_cons (pv 4) pa_nil)))
      (pss_cons (ps_set (i := 7) sc_law.nd rfl (Or.inl rfl) (pe_lst (pa_cons (pe_callTy call_list_of (by rfl) T.z_list (by decide +kernel) (pa_cons (pv 2) pa_nil)) (pa_cons (pe_slice sl_tupA (pv 2) po_none (po_some pe_int)) (pa_cons (pe_op op_catA (pv 2) (pe_tup (pa_cons (pe_tup pa_nil) pa_nil))) (pa_cons (pe_tup (pa_cons (pe_callTy call_list_of (by rfl) T.z_list (by decide +kernel) (pa_cons (pv 3) pa_nil)) (pa_cons (pv 4) (pa_cons (pv 5) pa_nil)))) (pa_cons pe_non pa_nil)))))))
      (pss_cons (ps_expr (pe_bm PySem.F.plainAttrs_list PySem.F.slot_list_extend PySem.F.type_list_extend mt_extend (pv 7) (pa_cons (pe_lst (pa_cons (pe_tup (pa_cons (pv 3) (pa_cons (pe_callTy call_list_of (by rfl) T.z_list (by decide +kernel) (pa_cons (pv 4) pa_nil)) (pa_cons (pv 5) pa_nil)))) (pa_cons (pe_tup (pa_cons (pv 3) (pa_cons (pv 4) (pa_cons (pe_callTy call_list_of (by rfl) T.z_list (by decide +kernel) (pa_cons (pv 5) pa_nil)) pa_nil)))) pa_nil))) pa_nil)))
      (pss_cons (ps_for PassesOwn.never rfl (pi_list (pe_lst (pa_cons (pe_tup pa_nil) (pa_cons (pe_tup (pa_cons (pe_ix ix_tup (pv 5) (pe_un un_neg pe_int) (fun _ _ => rfl)) (pa_cons (pe_ix ix_tup (pv 5) (pe_un un_neg pe_int) (fun _ _ => rfl)) pa_nil))) (pa_cons (pe_tup (pa_cons (pv 6) pa_nil)) (pa_cons (pe_tup (pa_cons (pe_un un_neg pe_int) pa_nil)) (pa_cons (pe_tup (pa_cons pe_bl pa_nil)) (pa_cons pe_non (pa_cons (pe_op op_catA (pv 5) (pe_tup (pa_cons pe_int pa_nil))) pa_nil))))))))) (pg_name (i := 8) sc_law.nd rfl (Or.inl rfl))
        (pss_one (ps_expr (pe_bm PySem.F.plainAttrs_list PySem.F.slot_list_append PySem.F.type_list_append mt_append (pv 7) (pa_cons (pe_tup (pa_cons (pv 3) (pa_cons (pv 4) (pa_cons (pv 8) pa_nil)))) pa_nil)))))
      (pss_cons (ps_set (i := 8) sc_law.nd rfl (Or.inl rfl) (pe_lst (pa_cons (pe_tup pa_nil) (pa_cons (pe_tup (pa_cons (pe_tup (pa_cons pe_str (pa_cons pe_str pa_nil))) pa_nil)) (pa_cons (pe_tup (pa_cons (pe_tup (pa_cons pe_str (pa_cons pe_str pa_nil))) pa_nil)) (pa_cons (pe_tup (pa_cons (pe_tup (pa_cons pe_str pa_nil)) pa_nil)) (pa_cons (pe_tup (pa_cons (pe_tup (pa_cons pe_str pa_nil)) pa_nil)) (pa_cons (pe_tup (pa_cons (pe_tup (pa_cons pe_str pa_nil)) pa_nil)) (pa_cons (pe_tup (pa_cons (pe_tup pa_nil) pa_nil)) (pa_cons (pe_tup (pa_cons (pe_tup (pa_cons pe_int pa_nil)) pa_nil)) (pa_cons (pe_tup (pa_cons pe_str pa_nil)) (pa_cons (pe_tup (pa_cons (pe_lst (pa_cons pe_str pa_nil)) pa_nil)) pa_nil))))))))))))
      (pss_cons (ps_expr (pe_bm PySem.F.plainAttrs_list PySem.F.slot_list_extend PySem.F.type_list_extend mt_extend (pv 7) (pa_cons (pe_lc (own := [("_law_one", 10)]) (g := (gName 10)) (tt := tYes) rfl sc_law.nd (pi_list (pv 8)) (blkOk_by (own := [("_law_one", 10)]) (N := ["_law_script", "_law_state", "_law_recipe", "_law_things", "_law_steps", "_law_made", "_law_count", "_law_bad", "_law_own", "_law_last", "_law_one"]) (sc := defScope s_law) (by decide +kernel)) (fun _ _ _ _ _ => (pg_name (i := 10) sc_law.nd rfl (Or.inl rfl))) (fun _ _ _ _ _ => pts_nil) (fun _ _ _ _ _ => (pe_tup (pa_cons (pe_op (op_repA' K (by rfl)) (pv 10) (pe_callB (call_len_seq' K (by rfl)) (by rfl) T.z_len PySem.boot_len (pa_cons (pv 3) pa_nil))) (pa_cons (pv 4) (pa_cons (pv 5) pa_nil)))))) pa_nil)))
      (pss_cons (ps_set (i := 9) sc_law.nd rfl (Or.inl rfl) (pe_ix ix_tup (pv 4) (pe_un un_neg pe_int) (fun _ _ => rfl)))
      (pss_cons (ps_set (i := 8) sc_law.nd rfl (Or.inl rfl) (pe_lst (pa_cons (pe_tup (pa_cons pe_str (pa_cons (pe_tup (pa_cons (pe_tup (pa_cons pe_str (pa_cons pe_int pa_nil))) pa_nil)) pa_nil))) (pa_cons (pe_tup (pa_cons pe_str (pa_cons (pe_op op_repA (pe_tup (pa_cons (pe_tup (pa_cons pe_str (pa_cons pe_int pa_nil))) pa_nil)) pe_int) pa_nil))) (pa_cons (pe_tup (pa_cons pe_str (pa_cons (pe_tup (pa_cons (pe_tup (pa_cons pe_str (pa_cons (pe_callB call_len_seq (by rfl) T.z_len PySem.boot_len (pa_cons (pv 3) pa_nil)) pa_nil))) pa_nil)) pa_nil))) pa_nil)))))
      (pss_cons (ps_expr (pe_bm PySem.F.plainAttrs_list PySem.F.slot_list_extend PySem.F.type_list_extend mt_extend (pv 8) (pa_cons (pe_lst (pa_cons (pe_tup (pa_cons pe_str (pa_cons (pe_tup (pa_cons (pe_tup (pa_cons pe_str (pa_cons (pe_op op_sub (pv 6) pe_int) pa_nil))) pa_nil)) pa_nil))) (pa_cons (pe_tup (pa_cons pe_str (pa_cons (pe_lst (pa_cons (pe_tup (pa_cons pe_str (pa_cons pe_int pa_nil))) pa_nil)) pa_nil))) (pa_cons (pe_tup (pa_cons pe_str (pa_cons (pe_tup (pa_cons (pe_tup (pa_cons pe_str (pa_cons pe_int pa_nil))) pa_nil)) pa_nil))) pa_nil)))) pa_nil)))
      (pss_cons (ps_expr (pe_bm PySem.F.plainAttrs_list PySem.F.slot_list_extend PySem.F.type_list_extend mt_extend (pv 8) (pa_cons (pe_lst (pa_cons (pe_tup (pa_cons pe_str (pa_cons (pe_tup (pa_cons (pe_tup (pa_cons pe_str (pa_cons pe_bl pa_nil))) pa_nil)) pa_nil))) (pa_cons (pe_lst (pa_cons pe_str (pa_cons (pe_tup (pa_cons (pe_tup (pa_cons pe_str (pa_cons pe_int pa_nil))) pa_nil)) pa_nil))) (pa_cons (pe_tup (pa_cons pe_str (pa_cons (pe_tup (pa_cons (pe_tup (pa_cons pe_str pa_nil)) pa_nil)) pa_nil))) pa_nil)))) pa_nil)))
      (pss_cons (ps_expr (pe_bm PySem.F.plainAttrs_list PySem.F.slot_list_extend PySem.F.type_list_extend mt_extend (pv 7) (pa_cons (pe_lc (own := [("_law_one", 10)]) (g := (gName 10)) (tt := tYes) rfl sc_law.nd (pi_list (pv 8)) (blkOk_by (own := [("_law_one", 10)]) (N := ["_law_script", "_law_state", "_law_recipe", "_law_things", "_law_steps", "_law_made", "_law_count", "_law_bad", "_law_own", "_law_last", "_law_one"]) (sc := defScope s_law) (by decide +kernel)) (fun _ _ _ _ _ => (pg_name (i := 10) sc_law.nd rfl (Or.inl rfl))) (fun _ _ _ _ _ => pts_nil) (fun _ _ _ _ _ => (pe_tup (pa_cons (pv 3) (pa_cons (pe_op (op_catA' K (by rfl)) (pe_slice (sl_tupA' K (by rfl)) (pv 4) po_none (po_some (pe_un un_neg pe_int))) (pe_tup (pa_cons (pv 10) pa_nil))) (pa_cons (pv 5) pa_nil)))))) pa_nil)))
      (pss_cons (ps_expr (pe_bm PySem.F.plainAttrs_list PySem.F.slot_list_append PySem.F.type_list_append mt_append (pv 7) (pa_cons (pe_tup (pa_cons (pv 3) (pa_cons (pe_op op_catA (pe_slice sl_tupA (pv 4) po_none (po_some (pe_un un_neg pe_int))) (pe_tup (pa_cons (pe_op op_catA (pv 9) (pe_tup (pa_cons pe_int pa_nil))) pa_nil))) (pa_cons (pv 5) pa_nil)))) pa_nil)))
      (pss_cons (ps_expr (pe_bm PySem.F.plainAttrs_list PySem.F.slot_list_append PySem.F.type_list_append mt_append (pv 7) (pa_cons (pe_tup (pa_cons (pv 3) (pa_cons (pe_op op_catA (pv 4) (pe_tup (pa_cons (pe_tup (pa_cons pe_str (pa_cons (pe_tup (pa_cons (pe_tup (pa_cons pe_str (pa_cons (pe_un un_neg pe_int) pa_nil))) pa_nil)) pa_nil))) pa_nil))) (pa_cons (pv 5) pa_nil)))) pa_nil)))
      (pss_one (ps_ret (pe_not (pe_callB (cr_any rfl) (by rfl) T.z_any (by decide +kernel) (pa_cons (pe_lc (own := [("_law_one", 10)]) (g := (gName 10)) (tt := tYes) rfl sc_law.nd (pi_list (pv 7)) (blkOk_by (own := [("_law_one", 10)]) (N := ["_law_script", "_law_state", "_law_recipe", "_law_things", "_law_steps", "_law_made", "_law_count", "_law_bad", "_law_own", "_law_last", "_law_one"]) (sc := defScope s_law) (by decide +kernel)) (fun _ _ _ _ _ => (pg_name (i := 10) sc_law.nd rfl (Or.inl rfl))) (fun _ _ _ _ _ => pts_nil) (fun _ _ _ _ _ => (pe_call G_is_recipe (hr.mono (by decide)) (by rfl) T.g_is_recipe T.F_is_recipe.kp T.b_is_recipe .nil pass0 (pa_cons (pv 10) pa_nil)))) pa_nil)))))))))))))))))))))), ?_⟩
    simp only [Cx.nox, Cx.wish, cxOf]
    -- state = []
    refine ⟨Nat.zero_le _, fun st hst => ?_⟩
    have E0 := en_start hS hl hst
    have m0 : Im (imT H) (upd H st (.lst [])) := (Ext.cell (im_T H) hst).im
    have is0 : imT H st = none := imT_none hst
    generalize (upd H st (.lst [])) = H0 at E0 m0 ⊢
    generalize imT H = I0 at m0 is0
    -- recipe
    refine ⟨_, rfl, _, rfl, a, st, ns, 0, rfl, E0, by omega, fun v d ts ss ms mi H1 hT G g1 E1 => ?_⟩
    obtain ⟨zs, ez, _⟩ := E0.zs
    obtain ⟨zs1, ez1, _⟩ := E1.zs
    obtain ⟨m1, s01, _⟩ := im_call m0 g1 is0 ⟨zs, ez⟩ ⟨zs1, ez1⟩
    have k1 := Tp.im (K := K) m1 _ _ hT
    generalize imOf I0 H0 H1 = I1 at m1 s01 k1
    -- what the recipe is
    have hsm := G.small
    have hrec := G.recipe
    obtain ⟨rfl, t1, t3, tm, s1, s5, hst, hss, rfl, mp, mm, mi1, mi2, ml⟩ := G
    obtain ⟨ss0, last, rfl⟩ : ∃ ss0 last, ss = ss0 ++ [last] := ⟨ss.dropLast, ss.getLast (List.length_pos_iff.mp s1), (List.dropLast_concat_getLast _).symm⟩
    obtain ⟨mi0, mz, rfl⟩ : ∃ mi0 mz, mi = mi0 ++ [mz] := ⟨mi.dropLast, mi.getLast (List.length_pos_iff.mp mi1), (List.dropLast_concat_getLast _).symm⟩
    have hmz : 0 ≤ mz := (mm mz (List.mem_append_right _ List.mem_cons_self)).1
    obtain ⟨ld, hld, hl2⟩ : ∃ ld, last = .tuple ld ∧ ld.length = 2 := by
      have e : (ss0 ++ [last])[ss0.length]? = some last := by simp
      have h := stepsAll_at hst e
      cases et : tupD last 2 2 with
      | false => rw [step_none et] at h; cases h
      | true =>
        obtain ⟨ds, rfl, h1, h2⟩ := tup_of et
        exact ⟨ds, rfl, by omega⟩
    have sT : smDs ts = true := smDs_all fun t ht => (menu_all (tm t ht)).2.1
    have MA := k01_math (mi0 := mi0) hld hl2 hmz t1 sT hss
    have hml : ((mi0 ++ [mz]).map PyData.int).length ≤ 2 := by rw [List.length_map]; exact mi2
    have hs0 : ss0.length ≤ 4 := by rw [List.length_append, List.length_singleton] at s5; omega
    have hcl : cutD (ss0 ++ [last]) none (some (-1)) = ss0 := cut_last _ _
    -- things, steps, made = recipe
    dsimp only [gName, tSeq]
    refine s_asg3 (I := I1) (d1 := .tuple ts) (d2 := .tuple (ss0 ++ [last])) (d3 := .tuple ((mi0 ++ [mz]).map .int)) rfl ?ev m1 fun vt vs vm I2 H2 e2 kt ks km => ?_
    (case ev => exact evd_var rfl k1)
    have k2 := Dp.mono e2.ii _ _ k1
    -- is_recipe(recipe) is not True
    dsimp only [gName, tSeq]
    refine s_if (K := K) (I := I2) (c := false) ?ev e2.im (fun h => by cases h) fun _ I3 H3 e3 => ?_
    (case ev =>
      refine evb_test (EvD.is (evd_op (evd_call (evds_cons (evd_var rfl k2) evds_nil) (spd_recipe hsm)) evd_bl rd_notB) ?_)
      rw [hrec]
      rfl)
    -- count
    dsimp only [gName, tSeq, tNext]
    refine s_asg (K := K) (I := I3) (d := .int ((ss0 ++ [last]).length : Int)) ?ev e3.im fun vc I4 H4 e4 kc => ?_
    (case ev => walk_at "sb_ev")
    -- bad = [..]
    dsimp only [gName, tSeq]
    refine s_cell (K := K) (I := I4) (ds := bad1 ts (ss0 ++ [last]) ((mi0 ++ [mz]).map .int)) ?ev e4.im fun bp bvs I5 H5 e5 hbp4 ibp hbp kb => ?_
    (case ev => unfold bad1; walk_at "sb_ev")
    have hbl : bvs.length = 5 := DpAll.len kb
    -- bad.extend([..])
    dsimp only [gName, tSeq]
    refine s_extend (K := K) (I := I5) (p := bp) (vs := bvs) (ds := bad2 ts (ss0 ++ [last]) ((mi0 ++ [mz]).map .int)) rfl hbp ibp (by show bvs.length + 2 ≤ 100000; omega) ?ev e5.im fun ws I6 H6 e6 kw m6 ib6 => ?_
    (case ev => unfold bad2; walk_at "sb_ev")
    have hb6 : (upd H6 bp (.lst (bvs ++ ws))) bp = some (.lst (bvs ++ ws)) := upd_same
    have kb6 : DpAll K I6 (bvs ++ ws) (bad1 ts (ss0 ++ [last]) ((mi0 ++ [mz]).map .int) ++ bad2 ts (ss0 ++ [last]) ((mi0 ++ [mz]).map .int)) := DpAll.app (DpAll.mono e6.ii _ _ kb) kw
    generalize (upd H6 bp (.lst (bvs ++ ws))) = H6' at m6 hb6 ⊢
    generalize bvs ++ ws = b6 at hb6 kb6
    -- for own in [..]: bad.append(..)
    dsimp only [gName, tSeq]
    have hat : atI ((mi0 ++ [mz]).map PyData.int) (-1) = some (.int mz) := by
      rw [List.map_append]
      exact atI_last _ _
    have s26 : Same I2 I6 := ((e3.ii.trans e4.ii).trans e5.ii).trans e6.ii
    have s46 : Same I4 I6 := e5.ii.trans e6.ii
    have km6 := Dp.mono s26 _ _ km
    have kc6 := Dp.mono s46 _ _ kc
    refine s_forL (K := K) (I := I6) (ds := owns1 ((mi0 ++ [mz]).map .int) mz ((ss0 ++ [last]).length : Int)) (fun I7 i σ H' => ∃ (I' : Hp) (bs : List V) (u : Option V), σ = [some (.ref a), some (.ref st), some v, some vt, some vs, some vm, some vc, some (.ref bp), u, none, none] ∧ Same I6 I7 ∧ Same I7 I' ∧ Im I' H' ∧ I' bp = none ∧ H' bp = some (.lst bs) ∧ DpAll K I' bs ((bad1 ts (ss0 ++ [last]) ((mi0 ++ [mz]).map .int) ++ bad2 ts (ss0 ++ [last]) ((mi0 ++ [mz]).map .int)) ++ ((owns1 ((mi0 ++ [mz]).map .int) mz ((ss0 ++ [last]).length : Int)).take i).map (bad3 ts (ss0 ++ [last]))))
      ?ev m6 (fun I7 H7 e7 => ⟨I7, b6, none, rfl, e7.ii, Same.refl _, e7.im, by rw [e7.old _ _ hb6]; exact ib6, e7.hh _ _ hb6, by rw [List.take_zero, List.map_nil, List.append_nil]; exact DpAll.mono e7.ii _ _ kb6⟩) (fun I7 i σ H' ⟨I', bs, u, _, _, s', m', _⟩ => ⟨I', s', m'⟩) ?_ ?_
    (case ev =>
      unfold owns1
      walk_at "sb_ev"
      all_goals first | exact rd_ixA hat | skip)
    · rintro I7 i x dx σ H' ex kx ⟨I', bs, u, rfl, s67, s7, m7, ib, hb, kbs⟩
      have hi : i < 7 := (List.getElem?_eq_some_iff.mp ex).1
      have hbsl : bs.length ≤ 100 := by
        have h7 : (bad1 ts (ss0 ++ [last]) ((mi0 ++ [mz]).map .int) ++ bad2 ts (ss0 ++ [last]) ((mi0 ++ [mz]).map .int)).length = 7 := rfl
        rw [DpAll.len kbs, List.length_append, List.length_map, List.length_take, h7]
        omega
      have kx' := Dp.mono s7 _ _ kx
      have kt' := Dp.mono ((s26.trans s67).trans s7) _ _ kt
      have ks' := Dp.mono ((s26.trans s67).trans s7) _ _ ks
      dsimp only [gName, tSeq]
      refine s_append (K := K) (I := I') (p := bp) (vs := bs) (d := bad3 ts (ss0 ++ [last]) dx) rfl hb ib (by omega) ?ev m7 fun y I8 H8 e8 k8 m8 ib8 => ?_
      (case ev => exact evd_tup (evds_cons (evd_var rfl kt') (evds_cons (evd_var rfl ks') (evds_cons (evd_var rfl kx') evds_nil))) (by show 3 ≤ 100000; decide))
      refine ⟨I8, bs ++ [y], _, rfl, s67, s7.trans e8.ii, m8, ib8, upd_same, ?_⟩
      rw [map_take_succ ex, ← List.append_assoc]
      exact DpAll.app (DpAll.mono e8.ii _ _ kbs) (.cons k8 .nil)
    rintro I7 σ H8 ⟨I8, b8, u8, rfl, s67, s78, m8, ib8, hb8, kb8⟩
    have kb8' : DpAll K I8 b8 ((bad1 ts (ss0 ++ [last]) ((mi0 ++ [mz]).map .int) ++ bad2 ts (ss0 ++ [last]) ((mi0 ++ [mz]).map .int)) ++ (owns1 ((mi0 ++ [mz]).map .int) mz ((ss0 ++ [last]).length : Int)).map (bad3 ts (ss0 ++ [last]))) := kb8
    have hb8l : b8.length = 14 := DpAll.len kb8'
    have s28 : Same I2 I8 := (s26.trans s67).trans s78
    have kt8 := Dp.mono s28 _ _ kt
    have ks8 := Dp.mono s28 _ _ ks
    have km8 := Dp.mono s28 _ _ km
    have kc8 := Dp.mono ((s46.trans s67).trans s78) _ _ kc
    clear kt ks km kc km6 kc6 k1 k2 kb kw s26 s46 s67 s78 s28
    -- own = [..]
    dsimp only [gName, tSeq]
    refine s_cell (K := K) (I := I8) (ds := owns2) ?ev m8 fun p9 v9 I9 H9 e9 hp98 ip9 hp9 k9 => ?_
    (case ev => unfold owns2; walk_at "sb_ev")
    have n9 : bp ≠ p9 := ne_of_none hb8 hp98
    have hb9 := e9.hh _ _ hb8
    have ib9 : I9 bp = none := by rw [e9.old _ _ hb8]; exact ib8
    have m9 := e9.im.freeze hp9
    have s9 : Same I9 (upd I9 p9 (.lst v9)) := same_new ip9
    have ib9' : upd I9 p9 (.lst v9) bp = none := by rw [upd_ne n9]; exact ib9
    have hp9' : upd I9 p9 (.lst v9) p9 = some (.lst v9) := upd_same
    generalize upd I9 p9 (.lst v9) = I9' at m9 s9 ib9' hp9'
    have kl9 : Dp K I9' (.ref p9) (.list owns2) := .lst (.inl (.inl hp9')) (DpAll.mono s9 _ _ k9)
    -- bad.extend([(one * len(things), ..) for one in own])
    dsimp only [gName, tSeq]
    refine s_extend (K := K) (I := I9') (p := bp) (vs := b8) (ds := owns2.map (bad4 (ts.length : Int) (ss0 ++ [last]) ((mi0 ++ [mz]).map .int))) rfl hb9 ib9' (by rw [List.length_map, hb8l]; decide) ?ev m9 fun w10 I10 H10 e10 k10 m10 ib10 => ?_
    (case ev =>
      refine evc_lc (f := bad4 (ts.length : Int) (ss0 ++ [last]) ((mi0 ++ [mz]).map .int)) (evd_var rfl kl9) (by decide) (fun _ => rfl) fun j v' d' I' ed sI kd => ?_
      obtain ⟨xs, rfl, hxs⟩ : ∃ xs, d' = .tuple xs ∧ xs.length ≤ 1 := by
        have := List.mem_of_getElem? ed
        simp only [owns2, List.mem_cons, List.not_mem_nil, or_false] at this
        rcases this with rfl | rfl | rfl | rfl | rfl | rfl | rfl | rfl | rfl | rfl <;> exact ⟨_, rfl, by decide⟩
      unfold bad4
      walk_at "sb_ev")
    have hb10 : (upd H10 bp (.lst (b8 ++ w10))) bp = some (.lst (b8 ++ w10)) := upd_same
    have kb10 := DpAll.app (DpAll.mono (K := K) ((e9.ii.trans s9).trans e10.ii) _ _ kb8') k10
    generalize (upd H10 bp (.lst (b8 ++ w10))) = H10' at m10 hb10 ⊢
    generalize b8 ++ w10 = b10 at hb10 kb10
    have hb10l : b10.length = 24 := DpAll.len kb10
    -- last = steps[-1]
    dsimp only [gName, tSeq]
    refine s_asg (K := K) (I := I10) (d := .tuple ld) ?ev m10 fun vl I11 H11 e11 kl => ?_
    (case ev => rw [← hld]; walk_at "sb_ev")
    have hb11 := e11.hh _ _ hb10
    have ib11 : I11 bp = none := by rw [e11.old _ _ hb10]; exact ib10
    -- own = [..]; own.extend(..) twice
    dsimp only [gName, tSeq]
    refine s_cell (K := K) (I := I11) (ds := [.tuple [.str "join", .tuple [.tuple [.str "thing", .int 0]]], .tuple [.str "glue", .tuple (repD 2 [.tuple [.str "thing", .int 0]])], .tuple [.str "sort", .tuple [.tuple [.str "thing", .int (ts.length : Int)]]]]) ?ev e11.im fun p12 v12 I12 H12 e12 hp121 ip12 hp12 k12 => ?_
    (case ev => walk_at "sb_ev")
    have n12 : bp ≠ p12 := ne_of_none hb11 hp121
    have hb12 := e12.hh _ _ hb11
    have ib12 : I12 bp = none := by rw [e12.old _ _ hb11]; exact ib11
    have h12l : v12.length = 3 := DpAll.len k12
    dsimp only [gName, tSeq]
    refine s_extend (K := K) (I := I12) (p := p12) (vs := v12) (ds := [.tuple [.str "sort", .tuple [.tuple [.str "step", .int (((ss0 ++ [last]).length : Int) - 1)]]], .tuple [.str "sort", .list [.tuple [.str "thing", .int 0]]], .tuple [.str "sort", .tuple [.tuple [.str "world", .int 0]]]]) rfl hp12 ip12 (by rw [h12l]; show 3 + 3 ≤ 100000; decide) ?ev e12.im fun w13 I13 H13 e13 k13 m13 ip13 => ?_
    (case ev => walk_at "sb_ev")
    have hp13 : (upd H13 p12 (.lst (v12 ++ w13))) p12 = some (.lst (v12 ++ w13)) := upd_same
    have hb13 : (upd H13 p12 (.lst (v12 ++ w13))) bp = some (.lst b10) := by rw [upd_ne n12]; exact e13.hh _ _ hb12
    have ib13 : I13 bp = none := by rw [e13.old _ _ hb12]; exact ib12
    have kv13 := DpAll.app (DpAll.mono e13.ii _ _ k12) k13
    generalize (upd H13 p12 (.lst (v12 ++ w13))) = H13' at m13 hp13 hb13 ⊢
    generalize v12 ++ w13 = v13 at hp13 kv13
    have h13l : v13.length = 6 := DpAll.len kv13
    dsimp only [gName, tSeq]
    refine s_extend (K := K) (I := I13) (p := p12) (vs := v13) (ds := [.tuple [.str "sort", .tuple [.tuple [.str "thing", .bool true]]], .list [.str "sort", .tuple [.tuple [.str "thing", .int 0]]], .tuple [.str "sort", .tuple [.tuple [.str "thing"]]]]) rfl hp13 ip13 (by rw [h13l]; show 6 + 3 ≤ 100000; decide) ?ev m13 fun w14 I14 H14 e14 k14 m14 ip14 => ?_
    (case ev => walk_at "sb_ev")
    have hp14 : (upd H14 p12 (.lst (v13 ++ w14))) p12 = some (.lst (v13 ++ w14)) := upd_same
    have hb14 : (upd H14 p12 (.lst (v13 ++ w14))) bp = some (.lst b10) := by rw [upd_ne n12]; exact e14.hh _ _ hb13
    have ib14 : I14 bp = none := by rw [e14.old _ _ hb13]; exact ib13
    have kv14 : DpAll K I14 (v13 ++ w14) (owns3 (ts.length : Int) ((ss0 ++ [last]).length : Int)) := DpAll.app (DpAll.mono e14.ii _ _ kv13) k14
    generalize (upd H14 p12 (.lst (v13 ++ w14))) = H14' at m14 hp14 hb14 ⊢
    generalize v13 ++ w14 = v14 at hp14 kv14
    have m15 := m14.freeze hp14
    have s15 : Same I14 (upd I14 p12 (.lst v14)) := same_new ip14
    have ib15 : upd I14 p12 (.lst v14) bp = none := by rw [upd_ne n12]; exact ib14
    have hp15 : upd I14 p12 (.lst v14) p12 = some (.lst v14) := upd_same
    generalize upd I14 p12 (.lst v14) = I15 at m15 s15 ib15 hp15
    have kl15 : Dp K I15 (.ref p12) (.list (owns3 (ts.length : Int) ((ss0 ++ [last]).length : Int))) := .lst (.inl (.inl hp15)) (DpAll.mono s15 _ _ kv14)
    -- bad.extend([(things, steps[:-1] + (one,), made) for one in own])
    dsimp only [gName, tSeq]
    refine s_extend (K := K) (I := I15) (p := bp) (vs := b10) (ds := (owns3 (ts.length : Int) ((ss0 ++ [last]).length : Int)).map (bad5 ts ss0 ((mi0 ++ [mz]).map .int))) rfl hb14 ib15 (by rw [List.length_map, hb10l]; show 24 + 9 ≤ 100000; decide) ?ev m15 fun w16 I16 H16 e16 k16 m16 ib16 => ?_
    (case ev =>
      refine evc_lc (f := bad5 ts ss0 ((mi0 ++ [mz]).map .int)) (evd_var rfl kl15) (by show 9 ≤ 100000; decide) (fun _ => rfl) fun j v' d' I' ed sI kd => ?_
      unfold bad5
      have hcl2 : (cutD (ss0 ++ [last]) none (some (-1))).length ≤ 4 := by rw [hcl]; exact hs0
      rw [← hcl]
      walk_at "sb_ev")
    have hb16 : (upd H16 bp (.lst (b10 ++ w16))) bp = some (.lst (b10 ++ w16)) := upd_same
    have sb16 : Same I10 I16 := ((((e11.ii.trans e12.ii).trans e13.ii).trans e14.ii).trans s15).trans e16.ii
    have kb16 := DpAll.app (DpAll.mono (K := K) sb16 _ _ kb10) k16
    generalize (upd H16 bp (.lst (b10 ++ w16))) = H16' at m16 hb16 ⊢
    generalize b10 ++ w16 = b16 at hb16 kb16
    have hb16l : b16.length = 33 := DpAll.len kb16
    -- two more
    dsimp only [gName, tSeq]
    refine s_append (K := K) (I := I16) (p := bp) (vs := b16) (d := .tuple [.tuple ts, .tuple (ss0 ++ [.tuple (ld ++ [.int 0])]), .tuple ((mi0 ++ [mz]).map .int)]) rfl hb16 ib16 (by omega) ?ev m16 fun y17 I17 H17 e17 k17 m17 ib17 => ?_
    (case ev =>
      refine EvD.is (d := .tuple [.tuple ts, .tuple (cutD (ss0 ++ [last]) none (some (-1)) ++ [.tuple (ld ++ [.int 0])]), .tuple ((mi0 ++ [mz]).map .int)]) ?_ (by rw [hcl])
      have hcl2 : (cutD (ss0 ++ [last]) none (some (-1))).length ≤ 4 := by rw [hcl]; exact hs0
      walk_at "sb_ev")
    have hb17 : (upd H17 bp (.lst (b16 ++ [y17]))) bp = some (.lst (b16 ++ [y17])) := upd_same
    have kb17 := DpAll.app (DpAll.mono (K := K) e17.ii _ _ kb16) (.cons k17 .nil)
    generalize (upd H17 bp (.lst (b16 ++ [y17]))) = H17' at m17 hb17 ⊢
    generalize b16 ++ [y17] = b17 at hb17 kb17
    have hb17l : b17.length = 34 := DpAll.len kb17
    dsimp only [gName, tSeq]
    refine s_append (K := K) (I := I17) (p := bp) (vs := b17) (d := .tuple [.tuple ts, .tuple ((ss0 ++ [last]) ++ [.tuple [.str "sort", .tuple [.tuple [.str "thing", .int (-1)]]]]), .tuple ((mi0 ++ [mz]).map .int)]) rfl hb17 ib17 (by omega) ?ev m17 fun y18 I18 H18 e18 k18 m18 ib18 => ?_
    (case ev => walk_at "sb_ev")
    have hb18 : (upd H18 bp (.lst (b17 ++ [y18]))) bp = some (.lst (b17 ++ [y18])) := upd_same
    have kb18 := DpAll.app (DpAll.mono (K := K) e18.ii _ _ kb17) (.cons k18 .nil)
    generalize (upd H18 bp (.lst (b17 ++ [y18]))) = H18' at m18 hb18 ⊢
    generalize b17 ++ [y18] = b18 at hb18 kb18
    -- the answer
    have m19 := m18.freeze hb18
    have s19 : Same I18 (upd I18 bp (.lst b18)) := same_new ib18
    have hb19 : upd I18 bp (.lst b18) bp = some (.lst b18) := upd_same
    generalize upd I18 bp (.lst b18) = I19 at m19 s19 hb19
    have kl19 : Dp K I19 (.ref bp) (.list (bads1 ts ss0 last ld mi0 mz)) := .lst (.inl (.inl hb19)) (DpAll.mono s19 _ _ kb18)
    have hbl19 : (bads1 ts ss0 last ld mi0 mz).length ≤ 100000 := by
      have h1 : b18.length = (bads1 ts ss0 last ld mi0 mz).length := DpAll.len kb18
      have h2 : b18.length = 35 := DpAll.len kb18
      omega
    dsimp only [gName, tSeq]
    refine s_ret (K := K) (I := I19) (d := .bool true) ?ev m19 fun v' I' H' e k => ?_
    (case ev =>
      refine EvD.is (evd_not (evd_any (evc_lcB (g := recipeD) (evd_var rfl kl19) hbl19 (fun _ => rfl) fun j v d I' ed sI kd => ?_))) ?_
      · exact evd_call (evds_cons (evd_var rfl kd) evds_nil) (spd_recipe (MA.1 d (List.mem_of_getElem? ed)))
      · have : ((bads1 ts ss0 last ld mi0 mz).map recipeD).any id = false := by
          rw [List.any_eq_false]
          intro b hb
          obtain ⟨d, hd, rfl⟩ := List.mem_map.mp hb
          rw [MA.2 d hd]
          decide
        rw [this]
        rfl)
    cases k
    exact q _
end

theorem all_mk {l : PySem.W.OpenLaw} {w : World} {K : PySem.W.Frag} {h : Heap} {mg : Str → Option Value} {fa : Addr} (X : K.In h) (G : h.Ns mainGlobals mg) (hfa : mg "law" = some (.ref fa))
    {f0 : Addr} {od0 an0 : Option Addr} {sl0 : Array (Option Value)} {oc0 kV0 dc0 pm0 cd0 ct0 : Value}
    (a0 : PySem.W.nsIn K mainGlobals "is_number" = some (some (.ref f0))) (l0 : K.lookup f0 = some ⟨oc0, od0, .func (PySem.W.fnOf "is_number" "is_number" (defArgs s_is_number) (defBody s_is_number) (defScope s_is_number) .none kV0 dc0 pm0 an0 cd0 ct0), sl0⟩) (c0 : PySem.W.codeIn K cd0 "is_number" = true) (k0 : PySem.W.keepIn K (.ref f0) = true)
    {f1 : Addr} {od1 an1 : Option Addr} {sl1 : Array (Option Value)} {oc1 kV1 dc1 pm1 cd1 ct1 : Value}
    (a1 : PySem.W.nsIn K mainGlobals "is_tuple" = some (some (.ref f1))) (l1 : K.lookup f1 = some ⟨oc1, od1, .func (PySem.W.fnOf "is_tuple" "is_tuple" (defArgs s_is_tuple) (defBody s_is_tuple) (defScope s_is_tuple) .none kV1 dc1 pm1 an1 cd1 ct1), sl1⟩) (c1 : PySem.W.codeIn K cd1 "is_tuple" = true) (k1 : PySem.W.keepIn K (.ref f1) = true)
    {f2 : Addr} {od2 an2 : Option Addr} {sl2 : Array (Option Value)} {oc2 kV2 dc2 pm2 cd2 ct2 : Value}
    (a2 : PySem.W.nsIn K mainGlobals "is_text" = some (some (.ref f2))) (l2 : K.lookup f2 = some ⟨oc2, od2, .func (PySem.W.fnOf "is_text" "is_text" (defArgs s_is_text) (defBody s_is_text) (defScope s_is_text) .none kV2 dc2 pm2 an2 cd2 ct2), sl2⟩) (c2 : PySem.W.codeIn K cd2 "is_text" = true) (k2 : PySem.W.keepIn K (.ref f2) = true)
    {f3 : Addr} {od3 an3 : Option Addr} {sl3 : Array (Option Value)} {oc3 kV3 dc3 pm3 cd3 ct3 : Value}
    (a3 : PySem.W.nsIn K mainGlobals "is_ascending" = some (some (.ref f3))) (l3 : K.lookup f3 = some ⟨oc3, od3, .func (PySem.W.fnOf "is_ascending" "is_ascending" (defArgs s_is_ascending) (defBody s_is_ascending) (defScope s_is_ascending) .none kV3 dc3 pm3 an3 cd3 ct3), sl3⟩) (c3 : PySem.W.codeIn K cd3 "is_ascending" = true) (k3 : PySem.W.keepIn K (.ref f3) = true)
    {f4 : Addr} {od4 an4 : Option Addr} {sl4 : Array (Option Value)} {oc4 kV4 dc4 pm4 cd4 ct4 : Value}
    (a4 : PySem.W.nsIn K mainGlobals "is_thing" = some (some (.ref f4))) (l4 : K.lookup f4 = some ⟨oc4, od4, .func (PySem.W.fnOf "is_thing" "is_thing" (defArgs s_is_thing) (defBody s_is_thing) (defScope s_is_thing) .none kV4 dc4 pm4 an4 cd4 ct4), sl4⟩) (c4 : PySem.W.codeIn K cd4 "is_thing" = true) (k4 : PySem.W.keepIn K (.ref f4) = true)
    {f5 : Addr} {od5 an5 : Option Addr} {sl5 : Array (Option Value)} {oc5 kV5 dc5 pm5 cd5 ct5 : Value}
    (a5 : PySem.W.nsIn K mainGlobals "are_things" = some (some (.ref f5))) (l5 : K.lookup f5 = some ⟨oc5, od5, .func (PySem.W.fnOf "are_things" "are_things" (defArgs s_are_things) (defBody s_are_things) (defScope s_are_things) .none kV5 dc5 pm5 an5 cd5 ct5), sl5⟩) (c5 : PySem.W.codeIn K cd5 "are_things" = true) (k5 : PySem.W.keepIn K (.ref f5) = true)
    {f6 : Addr} {od6 an6 : Option Addr} {sl6 : Array (Option Value)} {oc6 kV6 dc6 pm6 cd6 ct6 : Value}
    (a6 : PySem.W.nsIn K mainGlobals "is_reading" = some (some (.ref f6))) (l6 : K.lookup f6 = some ⟨oc6, od6, .func (PySem.W.fnOf "is_reading" "is_reading" (defArgs s_is_reading) (defBody s_is_reading) (defScope s_is_reading) .none kV6 dc6 pm6 an6 cd6 ct6), sl6⟩) (c6 : PySem.W.codeIn K cd6 "is_reading" = true) (k6 : PySem.W.keepIn K (.ref f6) = true)
    {f7 : Addr} {od7 an7 : Option Addr} {sl7 : Array (Option Value)} {oc7 kV7 dc7 pm7 cd7 ct7 : Value}
    (a7 : PySem.W.nsIn K mainGlobals "is_step" = some (some (.ref f7))) (l7 : K.lookup f7 = some ⟨oc7, od7, .func (PySem.W.fnOf "is_step" "is_step" (defArgs s_is_step) (defBody s_is_step) (defScope s_is_step) .none kV7 dc7 pm7 an7 cd7 ct7), sl7⟩) (c7 : PySem.W.codeIn K cd7 "is_step" = true) (k7 : PySem.W.keepIn K (.ref f7) = true)
    {f8 : Addr} {od8 an8 : Option Addr} {sl8 : Array (Option Value)} {oc8 kV8 dc8 pm8 cd8 ct8 : Value}
    (a8 : PySem.W.nsIn K mainGlobals "are_steps" = some (some (.ref f8))) (l8 : K.lookup f8 = some ⟨oc8, od8, .func (PySem.W.fnOf "are_steps" "are_steps" (defArgs s_are_steps) (defBody s_are_steps) (defScope s_are_steps) .none kV8 dc8 pm8 an8 cd8 ct8), sl8⟩) (c8 : PySem.W.codeIn K cd8 "are_steps" = true) (k8 : PySem.W.keepIn K (.ref f8) = true)
    {f9 : Addr} {od9 an9 : Option Addr} {sl9 : Array (Option Value)} {oc9 kV9 dc9 pm9 cd9 ct9 : Value}
    (a9 : PySem.W.nsIn K mainGlobals "is_made" = some (some (.ref f9))) (l9 : K.lookup f9 = some ⟨oc9, od9, .func (PySem.W.fnOf "is_made" "is_made" (defArgs s_is_made) (defBody s_is_made) (defScope s_is_made) .none kV9 dc9 pm9 an9 cd9 ct9), sl9⟩) (c9 : PySem.W.codeIn K cd9 "is_made" = true) (k9 : PySem.W.keepIn K (.ref f9) = true)
    {f10 : Addr} {od10 an10 : Option Addr} {sl10 : Array (Option Value)} {oc10 kV10 dc10 pm10 cd10 ct10 : Value}
    (a10 : PySem.W.nsIn K mainGlobals "is_recipe" = some (some (.ref f10))) (l10 : K.lookup f10 = some ⟨oc10, od10, .func (PySem.W.fnOf "is_recipe" "is_recipe" (defArgs s_is_recipe) (defBody s_is_recipe) (defScope s_is_recipe) .none kV10 dc10 pm10 an10 cd10 ct10), sl10⟩) (c10 : PySem.W.codeIn K cd10 "is_recipe" = true) (k10 : PySem.W.keepIn K (.ref f10) = true)
    {f11 : Addr} {od11 an11 : Option Addr} {sl11 : Array (Option Value)} {oc11 kV11 dc11 pm11 cd11 ct11 : Value}
    (a11 : PySem.W.nsIn K mainGlobals "_law_cell_at" = some (some (.ref f11))) (l11 : K.lookup f11 = some ⟨oc11, od11, .func (PySem.W.fnOf "_law_cell_at" "_law_cell_at" (defArgs s_cell_at) (defBody s_cell_at) (defScope s_cell_at) .none kV11 dc11 pm11 an11 cd11 ct11), sl11⟩) (c11 : PySem.W.codeIn K cd11 "_law_cell_at" = true) (k11 : PySem.W.keepIn K (.ref f11) = true)
    {f12 : Addr} {od12 an12 : Option Addr} {sl12 : Array (Option Value)} {oc12 kV12 dc12 pm12 cd12 ct12 : Value}
    (a12 : PySem.W.nsIn K mainGlobals "_law_mixed" = some (some (.ref f12))) (l12 : K.lookup f12 = some ⟨oc12, od12, .func (PySem.W.fnOf "_law_mixed" "_law_mixed" (defArgs s_mixed) (defBody s_mixed) (defScope s_mixed) .none kV12 dc12 pm12 an12 cd12 ct12), sl12⟩) (c12 : PySem.W.codeIn K cd12 "_law_mixed" = true) (k12 : PySem.W.keepIn K (.ref f12) = true)
    {f13 : Addr} {od13 an13 : Option Addr} {sl13 : Array (Option Value)} {oc13 kV13 dc13 pm13 cd13 ct13 : Value}
    (a13 : PySem.W.nsIn K mainGlobals "_law_draw" = some (some (.ref f13))) (l13 : K.lookup f13 = some ⟨oc13, od13, .func (PySem.W.fnOf "_law_draw" "_law_draw" (defArgs s_draw) (defBody s_draw) (defScope s_draw) .none kV13 dc13 pm13 an13 cd13 ct13), sl13⟩) (c13 : PySem.W.codeIn K cd13 "_law_draw" = true) (k13 : PySem.W.keepIn K (.ref f13) = true)
    {f14 : Addr} {od14 an14 : Option Addr} {sl14 : Array (Option Value)} {oc14 kV14 dc14 pm14 cd14 ct14 : Value}
    (a14 : PySem.W.nsIn K mainGlobals "_law_some_of" = some (some (.ref f14))) (l14 : K.lookup f14 = some ⟨oc14, od14, .func (PySem.W.fnOf "_law_some_of" "_law_some_of" (defArgs s_some_of) (defBody s_some_of) (defScope s_some_of) .none kV14 dc14 pm14 an14 cd14 ct14), sl14⟩) (c14 : PySem.W.codeIn K cd14 "_law_some_of" = true) (k14 : PySem.W.keepIn K (.ref f14) = true)
    {f15 : Addr} {od15 an15 : Option Addr} {sl15 : Array (Option Value)} {oc15 kV15 dc15 pm15 cd15 ct15 : Value}
    (a15 : PySem.W.nsIn K mainGlobals "_law_pick" = some (some (.ref f15))) (l15 : K.lookup f15 = some ⟨oc15, od15, .func (PySem.W.fnOf "_law_pick" "_law_pick" (defArgs s_pick) (defBody s_pick) (defScope s_pick) .none kV15 dc15 pm15 an15 cd15 ct15), sl15⟩) (c15 : PySem.W.codeIn K cd15 "_law_pick" = true) (k15 : PySem.W.keepIn K (.ref f15) = true)
    {f16 : Addr} {od16 an16 : Option Addr} {sl16 : Array (Option Value)} {oc16 kV16 dc16 pm16 cd16 ct16 : Value}
    (a16 : PySem.W.nsIn K mainGlobals "_law_some_thing" = some (some (.ref f16))) (l16 : K.lookup f16 = some ⟨oc16, od16, .func (PySem.W.fnOf "_law_some_thing" "_law_some_thing" (defArgs s_some_thing) (defBody s_some_thing) (defScope s_some_thing) .none kV16 dc16 pm16 an16 cd16 ct16), sl16⟩) (c16 : PySem.W.codeIn K cd16 "_law_some_thing" = true) (k16 : PySem.W.keepIn K (.ref f16) = true)
    {f17 : Addr} {od17 an17 : Option Addr} {sl17 : Array (Option Value)} {oc17 kV17 dc17 pm17 cd17 ct17 : Value}
    (a17 : PySem.W.nsIn K mainGlobals "_law_some_step" = some (some (.ref f17))) (l17 : K.lookup f17 = some ⟨oc17, od17, .func (PySem.W.fnOf "_law_some_step" "_law_some_step" (defArgs s_some_step) (defBody s_some_step) (defScope s_some_step) .none kV17 dc17 pm17 an17 cd17 ct17), sl17⟩) (c17 : PySem.W.codeIn K cd17 "_law_some_step" = true) (k17 : PySem.W.keepIn K (.ref f17) = true)
    {f18 : Addr} {od18 an18 : Option Addr} {sl18 : Array (Option Value)} {oc18 kV18 dc18 pm18 cd18 ct18 : Value}
    (a18 : PySem.W.nsIn K mainGlobals "_law_some_recipe" = some (some (.ref f18))) (l18 : K.lookup f18 = some ⟨oc18, od18, .func (PySem.W.fnOf "_law_some_recipe" "_law_some_recipe" (defArgs s_some_recipe) (defBody s_some_recipe) (defScope s_some_recipe) .none kV18 dc18 pm18 an18 cd18 ct18), sl18⟩) (c18 : PySem.W.codeIn K cd18 "_law_some_recipe" = true) (k18 : PySem.W.keepIn K (.ref f18) = true)
    {f19 : Addr} {od19 an19 : Option Addr} {sl19 : Array (Option Value)} {oc19 kV19 dc19 pm19 cd19 ct19 : Value}
    (a19 : PySem.W.nsIn K mainGlobals "law" = some (some (.ref f19))) (l19 : K.lookup f19 = some ⟨oc19, od19, .func (PySem.W.fnOf "law" "law" (defArgs s_law) (defBody s_law) (defScope s_law) .none kV19 dc19 pm19 an19 cd19 ct19), sl19⟩) (c19 : PySem.W.codeIn K cd19 "law" = true) (k19 : PySem.W.keepIn K (.ref f19) = true)
    {ck0 : Tok} (g0 : PySem.W.nsIn K mainGlobals "MOST_THINGS" = some (some (.int 5 ck0)))
    {ck1 : Tok} (g1 : PySem.W.nsIn K mainGlobals "MOST_TEXTS" = some (some (.int 4 ck1)))
    {ck2 : Tok} (g2 : PySem.W.nsIn K mainGlobals "LONGEST_TEXT" = some (some (.int 4 ck2)))
    {ck3 : Tok} (g3 : PySem.W.nsIn K mainGlobals "MOST_WORLDS" = some (some (.int 256 ck3)))
    {ck4 : Tok} (g4 : PySem.W.nsIn K mainGlobals "MOST_STEPS" = some (some (.int 8 ck4)))
    {ck5 : Tok} (g5 : PySem.W.nsIn K mainGlobals "MOST_MADE" = some (some (.int 3 ck5)))
    {ca6 : Addr} {ce6 : Array DictEntry} {cn6 : Nat} (g6 : PySem.W.nsIn K mainGlobals "READINGS" = some (some (.ref ca6))) (ml6 : K.lookup ca6 = some ⟨.type "dict", none, .dict ce6 cn6, #[]⟩) (mk6 : PySem.W.KeysLit w.params ce6.toList) (mm6 : ce6.toList.map (fun e => (keyD e, valD e)) = mREADINGS.map fun p => (some p.1, some p.2)) (mz6 : (ca6 == sysModules) = false)
    (z0 : PySem.W.nsIn K mainGlobals "len" = some none)
    (z1 : PySem.W.nsIn K mainGlobals "int" = some none)
    (z2 : PySem.W.nsIn K mainGlobals "str" = some none)
    (z3 : PySem.W.nsIn K mainGlobals "bool" = some none)
    (z4 : PySem.W.nsIn K mainGlobals "tuple" = some none)
    (z5 : PySem.W.nsIn K mainGlobals "list" = some none)
    (z6 : PySem.W.nsIn K mainGlobals "isinstance" = some none)
    (z7 : PySem.W.nsIn K mainGlobals "range" = some none)
    (z8 : PySem.W.nsIn K mainGlobals "min" = some none)
    (z9 : PySem.W.nsIn K mainGlobals "any" = some none)
    (z10 : PySem.W.nsIn K mainGlobals "sorted" = some none)
    (z11 : PySem.W.nsIn K mainGlobals "set" = some none)
    : ∃ fd : FuncData, (∀ (s : Shared) (v : Value), BindsTo s fd ⟨[v], []⟩ [("_law_script", v)]) ∧ ∀ base : Heap, K.In base → base.Ns mainGlobals mg → FnOk l.prog w K mg base CX0 7 fa fd ["_law_script"] (spLaw K) := by
  have e := hfa.symm.trans (PySem.W.mg_of X G a19)
  cases e
  have F0 := fun_mk (st := s_is_number) l0 c0 k0
  have b0 := F0.binds (ps := ["value", "least", "most"]) fun _ _ _ _ _ _ us hl => match us, hl with | [_, _, _], _ => rfl
  have F1 := fun_mk (st := s_is_tuple) l1 c1 k1
  have b1 := F1.binds (ps := ["value", "least", "most"]) fun _ _ _ _ _ _ us hl => match us, hl with | [_, _, _], _ => rfl
  have F2 := fun_mk (st := s_is_text) l2 c2 k2
  have b2 := F2.binds (ps := ["value", "longest"]) fun _ _ _ _ _ _ us hl => match us, hl with | [_, _], _ => rfl
  have F3 := fun_mk (st := s_is_ascending) l3 c3 k3
  have b3 := F3.binds (ps := ["values"]) fun _ _ _ _ _ _ us hl => match us, hl with | [_], _ => rfl
  have F4 := fun_mk (st := s_is_thing) l4 c4 k4
  have b4 := F4.binds (ps := ["value"]) fun _ _ _ _ _ _ us hl => match us, hl with | [_], _ => rfl
  have F5 := fun_mk (st := s_are_things) l5 c5 k5
  have b5 := F5.binds (ps := ["value"]) fun _ _ _ _ _ _ us hl => match us, hl with | [_], _ => rfl
  have F6 := fun_mk (st := s_is_reading) l6 c6 k6
  have b6 := F6.binds (ps := ["value", "many_things", "step"]) fun _ _ _ _ _ _ us hl => match us, hl with | [_, _, _], _ => rfl
  have F7 := fun_mk (st := s_is_step) l7 c7 k7
  have b7 := F7.binds (ps := ["value", "many_things", "step"]) fun _ _ _ _ _ _ us hl => match us, hl with | [_, _, _], _ => rfl
  have F8 := fun_mk (st := s_are_steps) l8 c8 k8
  have b8 := F8.binds (ps := ["value", "many_things"]) fun _ _ _ _ _ _ us hl => match us, hl with | [_, _], _ => rfl
  have F9 := fun_mk (st := s_is_made) l9 c9 k9
  have b9 := F9.binds (ps := ["value", "many_steps"]) fun _ _ _ _ _ _ us hl => match us, hl with | [_, _], _ => rfl
  have F10 := fun_mk (st := s_is_recipe) l10 c10 k10
  have b10 := F10.binds (ps := ["value"]) fun _ _ _ _ _ _ us hl => match us, hl with | [_], _ => rfl
  have F11 := fun_mk (st := s_cell_at) l11 c11 k11
  have b11 := F11.binds (ps := ["_law_script", "_law_k"]) fun _ _ _ _ _ _ us hl => match us, hl with | [_, _], _ => rfl
  have F12 := fun_mk (st := s_mixed) l12 c12 k12
  have b12 := F12.binds (ps := ["_law_script", "_law_k", "_law_many"]) fun _ _ _ _ _ _ us hl => match us, hl with | [_, _, _], _ => rfl
  have F13 := fun_mk (st := s_draw) l13 c13 k13
  have b13 := F13.binds (ps := ["_law_script", "_law_state", "_law_many"]) fun _ _ _ _ _ _ us hl => match us, hl with | [_, _, _], _ => rfl
  have F14 := fun_mk (st := s_some_of) l14 c14 k14
  have b14 := F14.binds (ps := ["_law_script", "_law_state", "_law_some", "_law_count"]) fun _ _ _ _ _ _ us hl => match us, hl with | [_, _, _, _], _ => rfl
  have F15 := fun_mk (st := s_pick) l15 c15 k15
  have b15 := F15.binds (ps := ["_law_script", "_law_state", "_law_some"]) fun _ _ _ _ _ _ us hl => match us, hl with | [_, _, _], _ => rfl
  have F16 := fun_mk (st := s_some_thing) l16 c16 k16
  have b16 := F16.binds (ps := ["_law_script", "_law_state"]) fun _ _ _ _ _ _ us hl => match us, hl with | [_, _], _ => rfl
  have F17 := fun_mk (st := s_some_step) l17 c17 k17
  have b17 := F17.binds (ps := ["_law_script", "_law_state", "_law_things", "_law_count"]) fun _ _ _ _ _ _ us hl => match us, hl with | [_, _, _, _], _ => rfl
  have F18 := fun_mk (st := s_some_recipe) l18 c18 k18
  have b18 := F18.binds (ps := ["_law_script", "_law_state"]) fun _ _ _ _ _ _ us hl => match us, hl with | [_, _], _ => rfl
  have F19 := fun_mk (st := s_law) l19 c19 k19
  have b19 := F19.binds (ps := ["_law_script"]) fun _ _ _ _ _ _ us hl => match us, hl with | [_], _ => rfl
  refine ⟨_, fun s v => .of_eq rfl, fun base _ _ => ok_law (T := ⟨
    f0, _, F0, PySem.W.mg_of X G a0, b0, f1, _, F1, PySem.W.mg_of X G a1, b1, f2, _, F2, PySem.W.mg_of X G a2, b2, f3, _, F3, PySem.W.mg_of X G a3, b3, f4, _, F4, PySem.W.mg_of X G a4, b4, f5, _, F5, PySem.W.mg_of X G a5, b5, f6, _, F6, PySem.W.mg_of X G a6, b6, f7, _, F7, PySem.W.mg_of X G a7, b7, f8, _, F8, PySem.W.mg_of X G a8, b8, f9, _, F9, PySem.W.mg_of X G a9, b9, f10, _, F10, PySem.W.mg_of X G a10, b10, f11, _, F11, PySem.W.mg_of X G a11, b11, f12, _, F12, PySem.W.mg_of X G a12, b12, f13, _, F13, PySem.W.mg_of X G a13, b13, f14, _, F14, PySem.W.mg_of X G a14, b14, f15, _, F15, PySem.W.mg_of X G a15, b15, f16, _, F16, PySem.W.mg_of X G a16, b16, f17, _, F17, PySem.W.mg_of X G a17, b17, f18, _, F18, PySem.W.mg_of X G a18, b18, fa, _, F19, PySem.W.mg_of X G a19, b19, ck0, PySem.W.mg_of X G g0, ck1, PySem.W.mg_of X G g1, ck2, PySem.W.mg_of X G g2, ck3, PySem.W.mg_of X G g3, ck4, PySem.W.mg_of X G g4, ck5, PySem.W.mg_of X G g5, ca6, PySem.W.mg_of X G g6, ⟨⟨_, _, ml6, mk6, mm6⟩, mz6⟩, PySem.W.mg_none_of X G z0, PySem.W.mg_none_of X G z1, PySem.W.mg_none_of X G z2, PySem.W.mg_none_of X G z3, PySem.W.mg_none_of X G z4, PySem.W.mg_none_of X G z5, PySem.W.mg_none_of X G z6, PySem.W.mg_none_of X G z7, PySem.W.mg_none_of X G z8, PySem.W.mg_none_of X G z9, PySem.W.mg_none_of X G z10, PySem.W.mg_none_of X G z11⟩)⟩
end Sb
open PySem PySem.W PyProof.Rows in
set_option maxRecDepth 100000 in
set_option maxHeartbeats 0 in
theorem PySem.Challenge.cw_samebuilds_k01_whole_recipes_holds : PySem.Challenge.rw_samebuilds_k01_whole_recipes.Holds := by
  w_on; o_law; k_head; (case hw => w_witness2)
  k_fill
  refine L2.walk_of (l := PySem.Challenge.rw_samebuilds_k01_whole_recipes) (n := 63) (k := 7) (x := "_law_script") (CX := fun _ => L2.CX0) (sp := fun w => Sb.spLaw _) rfl (by decide) rfl ⟨rfl, by decide, by decide⟩ (fun w h Y => PySem.W.kIn_of Y) ?F (fun _ _ a ns hl O hS => ⟨a, ns, rfl, O, hS, hl, fun _ => rfl⟩) (fun _ _ _ _ _ h => h)
  case F =>
    intro w mg fa h KX G hmg
    refine' Sb.all_mk KX G hmg ?sb_a0 ?sb_l0 ?sb_c0 ?sb_k0 ?sb_a1 ?sb_l1 ?sb_c1 ?sb_k1 ?sb_a2 ?sb_l2 ?sb_c2 ?sb_k2 ?sb_a3 ?sb_l3 ?sb_c3 ?sb_k3 ?sb_a4 ?sb_l4 ?sb_c4 ?sb_k4 ?sb_a5 ?sb_l5 ?sb_c5 ?sb_k5 ?sb_a6 ?sb_l6 ?sb_c6 ?sb_k6 ?sb_a7 ?sb_l7 ?sb_c7 ?sb_k7 ?sb_a8 ?sb_l8 ?sb_c8 ?sb_k8 ?sb_a9 ?sb_l9 ?sb_c9 ?sb_k9 ?sb_a10 ?sb_l10 ?sb_c10 ?sb_k10 ?sb_a11 ?sb_l11 ?sb_c11 ?sb_k11 ?sb_a12 ?sb_l12 ?sb_c12 ?sb_k12 ?sb_a13 ?sb_l13 ?sb_c13 ?sb_k13 ?sb_a14 ?sb_l14 ?sb_c14 ?sb_k14 ?sb_a15 ?sb_l15 ?sb_c15 ?sb_k15 ?sb_a16 ?sb_l16 ?sb_c16 ?sb_k16 ?sb_a17 ?sb_l17 ?sb_c17 ?sb_k17 ?sb_a18 ?sb_l18 ?sb_c18 ?sb_k18 ?sb_a19 ?sb_l19 ?sb_c19 ?sb_k19 ?sb_g0 ?sb_g1 ?sb_g2 ?sb_g3 ?sb_g4 ?sb_g5 ?sb_g6 ?sb_ml6 ?sb_mk6 ?sb_mm6 ?sb_mz6 ?sb_z0 ?sb_z1 ?sb_z2 ?sb_z3 ?sb_z4 ?sb_z5 ?sb_z6 ?sb_z7 ?sb_z8 ?sb_z9 ?sb_z10 ?sb_z11
    (case sb_a0 => k_is)
    (case sb_l0 => k_is)
    (case sb_c0 => k_is)
    (case sb_k0 => k_is)
    (case sb_a1 => k_is)
    (case sb_l1 => k_is)
    (case sb_c1 => k_is)
    (case sb_k1 => k_is)
    (case sb_a2 => k_is)
    (case sb_l2 => k_is)
    (case sb_c2 => k_is)
    (case sb_k2 => k_is)
    (case sb_a3 => k_is)
    (case sb_l3 => k_is)
    (case sb_c3 => k_is)
    (case sb_k3 => k_is)
    (case sb_a4 => k_is)
    (case sb_l4 => k_is)
    (case sb_c4 => k_is)
    (case sb_k4 => k_is)
    (case sb_a5 => k_is)
    (case sb_l5 => k_is)
    (case sb_c5 => k_is)
    (case sb_k5 => k_is)
    (case sb_a6 => k_is)
    (case sb_l6 => k_is)
    (case sb_c6 => k_is)
    (case sb_k6 => k_is)
    (case sb_a7 => k_is)
    (case sb_l7 => k_is)
    (case sb_c7 => k_is)
    (case sb_k7 => k_is)
    (case sb_a8 => k_is)
    (case sb_l8 => k_is)
    (case sb_c8 => k_is)
    (case sb_k8 => k_is)
    (case sb_a9 => k_is)
    (case sb_l9 => k_is)
    (case sb_c9 => k_is)
    (case sb_k9 => k_is)
    (case sb_a10 => k_is)
    (case sb_l10 => k_is)
    (case sb_c10 => k_is)
    (case sb_k10 => k_is)
    (case sb_a11 => k_is)
    (case sb_l11 => k_is)
    (case sb_c11 => k_is)
    (case sb_k11 => k_is)
    (case sb_a12 => k_is)
    (case sb_l12 => k_is)
    (case sb_c12 => k_is)
    (case sb_k12 => k_is)
    (case sb_a13 => k_is)
    (case sb_l13 => k_is)
    (case sb_c13 => k_is)
    (case sb_k13 => k_is)
    (case sb_a14 => k_is)
    (case sb_l14 => k_is)
    (case sb_c14 => k_is)
    (case sb_k14 => k_is)
    (case sb_a15 => k_is)
    (case sb_l15 => k_is)
    (case sb_c15 => k_is)
    (case sb_k15 => k_is)
    (case sb_a16 => k_is)
    (case sb_l16 => k_is)
    (case sb_c16 => k_is)
    (case sb_k16 => k_is)
    (case sb_a17 => k_is)
    (case sb_l17 => k_is)
    (case sb_c17 => k_is)
    (case sb_k17 => k_is)
    (case sb_a18 => k_is)
    (case sb_l18 => k_is)
    (case sb_c18 => k_is)
    (case sb_k18 => k_is)
    (case sb_a19 => k_is)
    (case sb_l19 => k_is)
    (case sb_c19 => k_is)
    (case sb_k19 => k_is)
    (case sb_g0 => k_is)
    (case sb_g1 => k_is)
    (case sb_g2 => k_is)
    (case sb_g3 => k_is)
    (case sb_g4 => k_is)
    (case sb_g5 => k_is)
    (case sb_g6 => k_is)
    (case sb_ml6 => k_is)
    (case sb_mk6 => (repeat' (first | exact True.intro | refine ⟨⟨_, _, rfl, rfl⟩, ?_⟩)))
    (case sb_mm6 => rfl)
    (case sb_mz6 => rfl)
    (case sb_z0 => k_is)
    (case sb_z1 => k_is)
    (case sb_z2 => k_is)
    (case sb_z3 => k_is)
    (case sb_z4 => k_is)
    (case sb_z5 => k_is)
    (case sb_z6 => k_is)
    (case sb_z7 => k_is)
    (case sb_z8 => k_is)
    (case sb_z9 => k_is)
    (case sb_z10 => k_is)
    (case sb_z11 => k_is)
