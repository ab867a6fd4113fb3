import PyProof.Rows.All
import Wide.All
import OpenK.AllK
import Wide.FinOn
import HandS.ForMost
import HandS.TupAny
import HandS.TupMul
import HandS.IsInst
import HandS.Deep
import HandS.Conv
import KE.DataCmp
import HandS.Style
import HandS.SetFor
import HandS.Strs
import HandS.TupSets
import KE.SortData
import HandS.ExcValue
import HandS.Walk
import KE.KeyNested
import HandS.Text
import HandS.Codes
import HandS.StrMore
import PyProof.CollectStr
import PyProof.TupleOfSeq
import KE.GoesMore
import HandS.Iter
import HandS.Zip
import PyProof.SliceList
import PyProof.SliceStr2
import PyProof.Rows.StrRev
import PyProof.ListStr
import HandS.ExcCtx
import HandS.HotCalls
import HandS.ExcIs
import HandS.WordsExc
import HandS.Comp
import HandS.ExcOwn
import HandS.Replace
import PyProof.Rows.StrStrike
import PyProof.StrOps2
import PySem.Challenge.RW_samebuilds_k47_whole_spoiled_texts
import KE.KStateDown
import HandS.Base
import HandS.Call
import HandS.Ends
import HandS.More
import HandS.Words
import HandS.Defaults
import HandS.Head0
import HandS.Head1
import HandS.Head2
import HandS.HeadEnd
import HandS.HeadHook1
import HandS.HeadHook2
import HandS.HeadHook3
set_option Elab.async false
set_option linter.all false
set_option maxRecDepth 100000
set_option maxHeartbeats 4000000
set_option maxHeartbeats 0
/-! P52: a head by one run of the top; what is asked of the top as what is true of a part of the heap (Head2, HeadHook2, HeadHook3 of the library). -/
namespace Sb
open PySem PySem.Spec PyProof.Rows L2
abbrev AlB : Type := (Bool × List He.FnW) × List (Option (List (Option (Str × Int))))
structure Ask where
  fa : List He.Fa
  fn : List He.DefD
  ex : List (PySem.W.Frag → Bool)
  dk : List (Str × List Str)
def obsB (q : Ask) (K : PySem.W.Frag) : AlB := (((q.fa.all fun f => f.ok K) && ((q.fn.all fun d => d.ok K) && q.ex.all fun p => p K), q.fn.map fun d => He.fnW K d.at_), q.dk.map fun x => He.dicW K (He.ga K x.1))
def valB (q : Ask) (w : World) : AlB := ((true, q.fn.map He.DefD.val), q.dk.map fun x => some (He.keysIn w.params x.2))
def SaysB (q : Ask) (w : World) (K : PySem.W.Frag) : Prop := obsB q K = valB q w
/-- what the module's names reach, one step behind the other -/
def nextB (g : Addr → Option Obj) (as : List Addr) : List Addr := as.flatMap fun a => match g a with
  | some o => He.refsD o
  | none => []
def asB (g : Addr → Option Obj) : Nat → List Addr → List Addr
  | 0, as => as
  | n + 1, as => as ++ asB g n (nextB g as)
def obsBG (n : Nat) (q : Ask) (g : Addr → Option Obj) : AlB := obsB q (He.frG g (asB g n [mainGlobals]))
section
variable {q : Ask} {w : World} {K : PySem.W.Frag}
theorem SaysB.all (c : SaysB q w K) : ((q.fa.all fun f => f.ok K) && ((q.fn.all fun d => d.ok K) && q.ex.all fun p => p K)) = true := congrArg (fun z : AlB => z.1.1) c
theorem SaysB.fact (c : SaysB q w K) (i : Nat) {f : He.Fa} (h : q.fa[i]? = some f := by rfl) : f.ok K = true := List.all_eq_true.mp (He.ba c.all).1 f (List.mem_of_getElem? h)
theorem SaysB.ext (c : SaysB q w K) (i : Nat) {p : PySem.W.Frag → Bool} (h : q.ex[i]? = some p := by rfl) : p K = true := List.all_eq_true.mp (He.ba (He.ba c.all).2).2 p (List.mem_of_getElem? h)
theorem SaysB.def_ (c : SaysB q w K) (i : Nat) {d : He.DefD} (h : q.fn[i]? = some d := by rfl) : ∃ fd, FunD K d.name d.qual d.params d.body d.scope (d.dvs K) (d.kws K) (He.fAd K d.at_) fd := by
  have e : q.fn.map (fun d => He.fnW K d.at_) = q.fn.map He.DefD.val := congrArg (fun z : AlB => z.1.2) c
  have e2 : (q.fn.map fun d => He.fnW K d.at_)[i]? = (q.fn.map He.DefD.val)[i]? := by rw [e]
  rw [List.getElem?_map, List.getElem?_map, h] at e2
  exact He.DefD.funD (Option.some.inj e2) (List.all_eq_true.mp (He.ba (He.ba c.all).2).1 d (List.mem_of_getElem? h))
theorem SaysB.dic (c : SaysB q w K) (i : Nat) {x : Str × List Str} (h : q.dk[i]? = some x := by rfl) : He.dicW K (He.ga K x.1) = some (He.keysIn w.params x.2) := by
  have e : q.dk.map (fun x => He.dicW K (He.ga K x.1)) = q.dk.map fun x => some (He.keysIn w.params x.2) := congrArg (fun z : AlB => z.2) c
  have e2 : (q.dk.map fun x => He.dicW K (He.ga K x.1))[i]? = (q.dk.map fun x => some (He.keysIn w.params x.2))[i]? := by rw [e]
  rw [List.getElem?_map, List.getElem?_map, h] at e2
  exact Option.some.inj e2
end
theorem fun_ofD {K : PySem.W.Frag} {x qual : Str} {st : Stmt} {f : Addr} {fd : FuncData} (F : FunD K x qual (defArgs st) (defBody st) (defScope st) [] [] f fd) : Fun K x qual st f fd := by
  obtain ⟨oc, od, dV, kV, doc, pm, an, cdv, ct, osl, e, lk, hcd, hD, hK⟩ := F.ex
  rcases hD with ⟨_, e2⟩ | ⟨h, _⟩
  · subst e2
    exact ⟨⟨oc, od, kV, doc, pm, an, cdv, ct, osl, e, lk, hcd⟩, F.kp⟩
  · exact absurd rfl h
/-- a dict of the top whose keys are texts -/
def dicV {α : Type} (k : DictEntry → α) (K : PySem.W.Frag) (a : Addr) : List α := match K.lookup a with
  | some ⟨_, _, .dict es _, _⟩ => es.toList.map k
  | _ => []
def keyE (e : DictEntry) : Option Str := match e.key with
  | .str x _ => some x
  | _ => none
def valE (e : DictEntry) : Option Int := match e.val with
  | .int i _ => some i
  | _ => none
def valSE (e : DictEntry) : Option Str := match e.val with
  | .str i _ => some i
  | _ => none
theorem dicW_lit {α : Type} {K : PySem.W.Frag} {P : Params} {a : Addr} {ks : List Str} (h : He.dicW K a = some (He.keysIn P ks)) (k : DictEntry → α) {m : List α} (hv : dicV k K a = m) : (∃ es n, K.lookup a = some ⟨.type "dict", none, .dict es n, #[]⟩ ∧ PySem.W.KeysLit P es.toList ∧ es.toList.map k = m) ∧ (a == sysModules) = false := by
  unfold He.dicW at h
  unfold dicV at hv
  cases q : K.lookup a with
  | none =>
    rw [q] at h
    cases h
  | some o =>
    obtain ⟨oc, od, dt, osl⟩ := o
    rw [q] at h hv
    cases oc with
    | type c =>
      cases od with
      | none =>
        cases dt with
        | dict es n =>
          have h1 : (match decide (c = "dict") && (osl.isEmpty && !(a == sysModules)) with
            | true => some (es.toList.map He.keyOf)
            | false => none) = some (He.keysIn P ks) := h
          cases q2 : (decide (c = "dict") && (osl.isEmpty && !(a == sysModules))) with
          | false =>
            rw [q2] at h1
            cases h1
          | true =>
            rw [q2] at h1
            obtain ⟨b1, b2⟩ := He.ba q2
            obtain ⟨b3, b4⟩ := He.ba b2
            have e1 := of_decide_eq_true b1
            subst e1
            have e2 : osl = #[] := Array.isEmpty_iff.mp b3
            subst e2
            exact ⟨⟨es, n, rfl, He.keysLit_of (Option.some.inj h1), hv⟩, by simpa using b4⟩
        | _ => cases h
      | some _ => cases h
    | _ => cases h
/-! ### what an exception class is asked -/
def exT (x : Str) : PySem.W.Frag → Bool := fun K => PySem.W.isClsIn K (He.ga K x) && decide (PySem.W.typeIn K (.ref (He.ga K x)) = some (.type "type"))
def exB (x : Str) : PySem.W.Frag → Bool := fun K => decide (PySem.W.subIn K (.ref (He.ga K x)) (.type "BaseException") = some true) && (PySem.W.hasDictIn K (He.ga K x) && (decide (PySem.W.specialIn K (.builtin "object.__class__") "__get__" = some (some (.builtin "getset_descriptor.__get__"))) && decide (PySem.W.takesIn K (.builtin "object.__class__") = some true)))
def exE (x b : Str) : PySem.W.Frag → Bool := fun K => decide (PySem.W.findIn K (.ref (He.ga K x)) "__getattribute__" = some (some (.builtin "BaseException.__getattribute__"))) && (decide (PySem.W.findIn K (.ref (He.ga K x)) "__getattr__" = some none) && (PySem.W.hasDictIn K (He.ga K x) && (decide (PySem.W.findIn K (.ref (He.ga K x)) "__class__" = some (some (.builtin "object.__class__"))) && (decide (PySem.W.mroIn K (He.ga K x) (.type "object") = some true) && (decide (PySem.W.subIn K (.ref (He.ga K x)) (.type "ValueError") = some true) && decide (PySem.W.subIn K (.ref (He.ga K x)) (.ref (He.ga K b)) = some true))))))
def exS (x : Str) (ys : List (Str × Bool)) : PySem.W.Frag → Bool := fun K => ys.all fun y => decide (PySem.W.subIn K (.ref (He.ga K x)) (.ref (He.ga K y.1)) = some y.2)
def exV (x : Str) (m : List (Str × Int)) : PySem.W.Frag → Bool := fun K => decide (dicV (fun e => (keyE e, valE e)) K (He.ga K x) = m.map fun p => (some p.1, some p.2))
def exW (x : Str) (m : List (Str × Str)) : PySem.W.Frag → Bool := fun K => decide (dicV (fun e => (keyE e, valSE e)) K (He.ga K x) = m.map fun p => (some p.1, some p.2))
/-! ### two askings of one part of the heap; a run's equation in parts -/
def hookP (n : Nat) (q1 q2 : Ask) : PySem.W.Hook where
  α := AlB × AlB
  obs := fun s => (obsBG n q1 s.heap.get?, obsBG n q2 s.heap.get?)
  val := fun w => (valB q1 w, valB q2 w)
  says := fun w h => ∃ K : PySem.W.Frag, K.In h ∧ SaysB q1 w K ∧ SaysB q2 w K
  of := fun _ _ e => ⟨_, He.frG_in, congrArg Prod.fst e, congrArg Prod.snd e⟩
  keeps := fun _ _ _ ⟨K, hK, c, d⟩ k => ⟨K, PySem.W.Frag.In.keeps hK k, c, d⟩
def obP (n : Nat) (q1 q2 : Ask) (s : PySem.W.SharedT) : AlB × AlB := (obsBG n q1 (HandSHeadRun.getT s), obsBG n q2 (HandSHeadRun.getT s))
theorem obP_eq {n : Nat} {q1 q2 : Ask} (s : PySem.W.SharedT) : obP n q1 q2 s = (hookP n q1 q2).obs s.abs := by
  have e : HandSHeadRun.getT s = s.abs.heap.get? := funext (HandSHeadRun.getT_eq s)
  unfold obP
  rw [e]
  rfl
theorem map_parts {σ α β γ δ : Type} {E : Option σ} {f : σ → α} {g : σ → β} {h : σ → γ} {k : σ → δ} {a : α} {b : β} {c : γ} {d : δ} (h1 : E.map (fun s => (f s, g s)) = some (a, b)) (h2 : E.map h = some c) (h3 : E.map k = some d) : E.map (fun s => (f s, g s, h s, k s)) = some (a, b, c, d) := by
  cases E with
  | none => cases h1
  | some s =>
    have e1 : (f s, g s) = (a, b) := Option.some.inj h1
    have e2 : h s = c := Option.some.inj h2
    have e3 : k s = d := Option.some.inj h3
    have e4 : f s = a := congrArg Prod.fst e1
    have e5 : g s = b := congrArg Prod.snd e1
    show some (f s, g s, h s, k s) = some (a, b, c, d)
    rw [e2, e3, e4, e5]
def Run0 (r : PySem.W.OpenRow) (q : Program) (M : Nat) (loose : List PySem.Str) (w : World) : Prop := open PySem.W HandSHeadRun in
  ∀ os : OsState, (endF (stepQ (denQ tabQ) r.prog w) M r.prog w os).map (fun s => (looksF r.prog (boot_heap w.params) s.abs, seenQ q loose (importedModules r.prog.main.body) (fun s => xlAt q [] s && recOk r.toRowW.records s) s.abs)) = some (true, openGood q loose)
def Run1 (r : PySem.W.OpenRow) (M : Nat) (n : Nat) (q1 : Ask) (w : World) : Prop := open PySem.W HandSHeadRun in
  ∀ os : OsState, (endF (stepQ (denQ tabQ) r.prog w) M r.prog w os).map (fun s => obsBG n q1 (getT s)) = some (valB q1 w)
theorem run_parts {r : PySem.W.OpenRow} {q : Program} {M n : Nat} {loose : List PySem.Str} {q1 q2 : Ask} {w : World} (h0 : Run0 r q M loose w) (h1 : Run1 r M n q1 w) (h2 : Run1 r M n q2 w) : HandSHeadRun.RunEq r q (hookP n q1 q2) (obP n q1 q2) M loose w := fun os => map_parts (h0 os) (h1 os) (h2 os)
end Sb
namespace Sb
open PySem PySem.Spec PyProof.Rows L2
def topS (i : Nat) : Stmt := PySem.Challenge.pw_samebuilds_k47_whole_spoiled_texts.main.body.getD i (.Pass ⟨0, 0, 0, 0⟩)
abbrev s_is_number : Stmt := topS 25
abbrev s_is_tuple : Stmt := topS 26
abbrev s_is_text : Stmt := topS 27
abbrev s_is_ascending : Stmt := topS 28
abbrev s_is_thing : Stmt := topS 29
abbrev s_are_things : Stmt := topS 30
abbrev s_is_reading : Stmt := topS 31
abbrev s_is_step : Stmt := topS 32
abbrev s_are_steps : Stmt := topS 33
abbrev s_is_made : Stmt := topS 34
abbrev s_is_recipe : Stmt := topS 35
abbrev s_check_recipe : Stmt := topS 36
abbrev s_written_thing : Stmt := topS 46
abbrev s_written_step : Stmt := topS 47
abbrev s_written : Stmt := topS 48
abbrev s_format_recipe : Stmt := topS 49
abbrev s_read_thing : Stmt := topS 50
abbrev s_read_number : Stmt := topS 51
abbrev s_read_reading : Stmt := topS 52
abbrev s_read_step : Stmt := topS 53
abbrev s_parse_recipe : Stmt := topS 54
abbrev s_cell_at : Stmt := topS 56
abbrev s_mixed : Stmt := topS 57
abbrev s_draw : Stmt := topS 58
abbrev s_pick : Stmt := topS 59
abbrev s_which : Stmt := topS 60
abbrev s_some_of : Stmt := topS 61
abbrev s_some_thing : Stmt := topS 62
abbrev s_some_step : Stmt := topS 63
abbrev s_some_recipe : Stmt := topS 64
abbrev s_read : Stmt := topS 65
abbrev s_law : Stmt := topS 66
def mREADINGS : List (Str × Int) := [("join", 2), ("sort", 1), ("turn", 1), ("first", 1), ("rest", 1), ("less", 2), ("same", 2), ("pick", 3)]
def mSIGNS : List (Str × Str) := [("thing", "t"), ("step", "s")]
def mKINDS : List (Str × Str) := [("t", "thing"), ("s", "step")]
def dd0 : He.DefD := ⟨("is_number", none), "is_number", "is_number", defArgs s_is_number, defBody s_is_number, defScope s_is_number, [], []⟩
def dd1 : He.DefD := ⟨("is_tuple", none), "is_tuple", "is_tuple", defArgs s_is_tuple, defBody s_is_tuple, defScope s_is_tuple, [], []⟩
def dd2 : He.DefD := ⟨("is_text", none), "is_text", "is_text", defArgs s_is_text, defBody s_is_text, defScope s_is_text, [], []⟩
def dd3 : He.DefD := ⟨("is_ascending", none), "is_ascending", "is_ascending", defArgs s_is_ascending, defBody s_is_ascending, defScope s_is_ascending, [], []⟩
def dd4 : He.DefD := ⟨("is_thing", none), "is_thing", "is_thing", defArgs s_is_thing, defBody s_is_thing, defScope s_is_thing, [], []⟩
def dd5 : He.DefD := ⟨("are_things", none), "are_things", "are_things", defArgs s_are_things, defBody s_are_things, defScope s_are_things, [], []⟩
def dd6 : He.DefD := ⟨("is_reading", none), "is_reading", "is_reading", defArgs s_is_reading, defBody s_is_reading, defScope s_is_reading, [], []⟩
def dd7 : He.DefD := ⟨("is_step", none), "is_step", "is_step", defArgs s_is_step, defBody s_is_step, defScope s_is_step, [], []⟩
def dd8 : He.DefD := ⟨("are_steps", none), "are_steps", "are_steps", defArgs s_are_steps, defBody s_are_steps, defScope s_are_steps, [], []⟩
def dd9 : He.DefD := ⟨("is_made", none), "is_made", "is_made", defArgs s_is_made, defBody s_is_made, defScope s_is_made, [], []⟩
def dd10 : He.DefD := ⟨("is_recipe", none), "is_recipe", "is_recipe", defArgs s_is_recipe, defBody s_is_recipe, defScope s_is_recipe, [], []⟩
def dd11 : He.DefD := ⟨("check_recipe", none), "check_recipe", "check_recipe", defArgs s_check_recipe, defBody s_check_recipe, defScope s_check_recipe, [], []⟩
def dd12 : He.DefD := ⟨("written_thing", none), "written_thing", "written_thing", defArgs s_written_thing, defBody s_written_thing, defScope s_written_thing, [], []⟩
def dd13 : He.DefD := ⟨("written_step", none), "written_step", "written_step", defArgs s_written_step, defBody s_written_step, defScope s_written_step, [], []⟩
def dd14 : He.DefD := ⟨("written", none), "written", "written", defArgs s_written, defBody s_written, defScope s_written, [], []⟩
def dd15 : He.DefD := ⟨("format_recipe", none), "format_recipe", "format_recipe", defArgs s_format_recipe, defBody s_format_recipe, defScope s_format_recipe, [], []⟩
def dd16 : He.DefD := ⟨("read_thing", none), "read_thing", "read_thing", defArgs s_read_thing, defBody s_read_thing, defScope s_read_thing, [], []⟩
def dd17 : He.DefD := ⟨("read_number", none), "read_number", "read_number", defArgs s_read_number, defBody s_read_number, defScope s_read_number, [], []⟩
def dd18 : He.DefD := ⟨("read_reading", none), "read_reading", "read_reading", defArgs s_read_reading, defBody s_read_reading, defScope s_read_reading, [], []⟩
def dd19 : He.DefD := ⟨("read_step", none), "read_step", "read_step", defArgs s_read_step, defBody s_read_step, defScope s_read_step, [], []⟩
def dd20 : He.DefD := ⟨("parse_recipe", none), "parse_recipe", "parse_recipe", defArgs s_parse_recipe, defBody s_parse_recipe, defScope s_parse_recipe, [], []⟩
def dd21 : He.DefD := ⟨("_law_cell_at", none), "_law_cell_at", "_law_cell_at", defArgs s_cell_at, defBody s_cell_at, defScope s_cell_at, [], []⟩
def dd22 : He.DefD := ⟨("_law_mixed", none), "_law_mixed", "_law_mixed", defArgs s_mixed, defBody s_mixed, defScope s_mixed, [], []⟩
def dd23 : He.DefD := ⟨("_law_draw", none), "_law_draw", "_law_draw", defArgs s_draw, defBody s_draw, defScope s_draw, [], []⟩
def dd24 : He.DefD := ⟨("_law_pick", none), "_law_pick", "_law_pick", defArgs s_pick, defBody s_pick, defScope s_pick, [], []⟩
def dd25 : He.DefD := ⟨("_law_which", none), "_law_which", "_law_which", defArgs s_which, defBody s_which, defScope s_which, [], []⟩
def dd26 : He.DefD := ⟨("_law_some_of", none), "_law_some_of", "_law_some_of", defArgs s_some_of, defBody s_some_of, defScope s_some_of, [], []⟩
def dd27 : He.DefD := ⟨("_law_some_thing", none), "_law_some_thing", "_law_some_thing", defArgs s_some_thing, defBody s_some_thing, defScope s_some_thing, [], []⟩
def dd28 : He.DefD := ⟨("_law_some_step", none), "_law_some_step", "_law_some_step", defArgs s_some_step, defBody s_some_step, defScope s_some_step, [], []⟩
def dd29 : He.DefD := ⟨("_law_some_recipe", none), "_law_some_recipe", "_law_some_recipe", defArgs s_some_recipe, defBody s_some_recipe, defScope s_some_recipe, [], []⟩
def dd30 : He.DefD := ⟨("_law_read", none), "_law_read", "_law_read", defArgs s_read, defBody s_read, defScope s_read, [], []⟩
def dd31 : He.DefD := ⟨("law", none), "law", "law", defArgs s_law, defBody s_law, defScope s_law, [], []⟩
def hdFn0 : List (He.DefD) := [dd0, dd1, dd2, dd3, dd4, dd5, dd6, dd7, dd8, dd9, dd10, dd11, dd12, dd13, dd14]
def hdFn1 : List (He.DefD) := [dd15, dd16, dd17, dd18, dd19, dd20, dd21, dd22, dd23, dd24, dd25, dd26, dd27, dd28, dd29]
def hdFn2 : List (He.DefD) := [dd30, dd31]
def hdFn : List (He.DefD) := hdFn0 ++ (hdFn1 ++ (hdFn2))
def hdFa0 : List (He.Fa) := [.glo "is_number", .glo "is_tuple", .glo "is_text", .glo "is_ascending", .glo "is_thing", .glo "are_things", .glo "is_reading", .glo "is_step", .glo "are_steps", .glo "is_made", .glo "is_recipe", .glo "check_recipe", .glo "written_thing", .glo "written_step", .glo "written"]
def hdFa1 : List (He.Fa) := [.glo "format_recipe", .glo "read_thing", .glo "read_number", .glo "read_reading", .glo "read_step", .glo "parse_recipe", .glo "_law_cell_at", .glo "_law_mixed", .glo "_law_draw", .glo "_law_pick", .glo "_law_which", .glo "_law_some_of", .glo "_law_some_thing", .glo "_law_some_step", .glo "_law_some_recipe"]
def hdFa2 : List (He.Fa) := [.glo "_law_read", .glo "law", .int "MOST_THINGS" 5, .int "MOST_TEXTS" 4, .int "LONGEST_TEXT" 4, .int "MOST_WORLDS" 256, .int "MOST_STEPS" 8, .int "MOST_MADE" 3, .glo "READINGS", .str "PARTS" "; ", .str "ITEMS" ", ", .str "CHOICES" "|", .str "WORDS" " ", .str "EMPTY" "-", .glo "SIGNS"]
def hdFa3 : List (He.Fa) := [.glo "KINDS", .str "DIGITS" "0123456789", .free "len", .free "int", .free "str", .free "bool", .free "tuple", .free "list", .free "isinstance", .free "range", .free "min", .free "all", .free "sorted", .free "set", .free "ValueError"]
def hdFa4 : List (He.Fa) := [.glo "BuildError", .glo "InvalidRecipe", .glo "InvalidActs", .glo "InvalidAct", .glo "InvalidWorld", .glo "InvalidWorlds", .glo "InvalidStep", .glo "InvalidOffers", .glo "InvalidWish", .glo "InvalidNumber", .glo "NotLeft", .glo "Unlike", .glo "NotOffered", .glo "Bought", .glo "NothingToUndo"]
def hdFa5 : List (He.Fa) := [.glo "ParseError", .exc "InvalidRecipe", .exc "ParseError"]
def hdFa : List (He.Fa) := hdFa0 ++ (hdFa1 ++ (hdFa2 ++ (hdFa3 ++ (hdFa4 ++ (hdFa5)))))
def hdEx0 : List (PySem.W.Frag → Bool) := [exV "READINGS" mREADINGS, exW "SIGNS" mSIGNS, exW "KINDS" mKINDS, exT "BuildError", exT "InvalidRecipe", exT "InvalidActs", exT "InvalidAct", exT "InvalidWorld", exT "InvalidWorlds", exT "InvalidStep", exT "InvalidOffers", exT "InvalidWish", exT "InvalidNumber", exT "NotLeft", exT "Unlike"]
def hdEx1 : List (PySem.W.Frag → Bool) := [exT "NotOffered", exT "Bought", exT "NothingToUndo", exT "ParseError", exB "BuildError", exE "InvalidRecipe" "BuildError", exE "ParseError" "BuildError", exS "InvalidRecipe" [("InvalidRecipe", true), ("InvalidActs", false), ("InvalidAct", false), ("InvalidWorld", false), ("InvalidWorlds", false), ("InvalidStep", false), ("InvalidOffers", false), ("InvalidWish", false), ("InvalidNumber", false), ("NotLeft", false), ("Unlike", false), ("NotOffered", false), ("Bought", false), ("NothingToUndo", false), ("ParseError", false)], exS "ParseError" [("InvalidRecipe", false), ("InvalidActs", false), ("InvalidAct", false), ("InvalidWorld", false), ("InvalidWorlds", false), ("InvalidStep", false), ("InvalidOffers", false), ("InvalidWish", false), ("InvalidNumber", false), ("NotLeft", false), ("Unlike", false), ("NotOffered", false), ("Bought", false), ("NothingToUndo", false), ("ParseError", true)]]
def hdEx : List (PySem.W.Frag → Bool) := hdEx0 ++ (hdEx1)
def hdNames0 : List (PySem.Str) := ["BuildError", "InvalidRecipe", "InvalidActs", "InvalidAct", "InvalidWorld", "InvalidWorlds", "InvalidStep", "InvalidOffers", "InvalidWish", "InvalidNumber", "NotLeft", "Unlike", "NotOffered", "Bought", "NothingToUndo"]
def hdNames1 : List (PySem.Str) := ["ParseError", "MOST_THINGS", "MOST_TEXTS", "LONGEST_TEXT", "MOST_WORLDS", "MOST_STEPS", "MOST_MADE", "READINGS", "is_number", "is_tuple", "is_text", "is_ascending", "is_thing", "are_things", "is_reading"]
def hdNames2 : List (PySem.Str) := ["is_step", "are_steps", "is_made", "is_recipe", "check_recipe", "PARTS", "ITEMS", "CHOICES", "WORDS", "EMPTY", "SIGNS", "KINDS", "DIGITS", "written_thing", "written_step"]
def hdNames3 : List (PySem.Str) := ["written", "format_recipe", "read_thing", "read_number", "read_reading", "read_step", "parse_recipe", "_law_cell_at", "_law_mixed", "_law_draw", "_law_pick", "_law_which", "_law_some_of", "_law_some_thing", "_law_some_step"]
def hdNames4 : List (PySem.Str) := ["_law_some_recipe", "_law_read"]
def hdNames : List (PySem.Str) := hdNames0 ++ (hdNames1 ++ (hdNames2 ++ (hdNames3 ++ (hdNames4))))
def hdDk : List (Str × List Str) := [("READINGS", ["join", "sort", "turn", "first", "rest", "less", "same", "pick"]), ("SIGNS", ["thing", "step"]), ("KINDS", ["t", "s"])]
def ask1 : Ask := ⟨hdFa, hdFn, [], hdDk⟩
def ask2 : Ask := ⟨[], [], hdEx, []⟩
abbrev hdR : PySem.W.OpenRow := PySem.W.OpenLaw.row PySem.Challenge.rw_samebuilds_k47_whole_spoiled_texts
abbrev hk : PySem.W.Hook := hookP 5 ask1 ask2
theorem hdRun0F (w : World) : Run0 hdR (PySem.W.view hdR.prog [66]) 8600 hdNames (w.withFollow "special-get-raises" false) := by
  intro os
  kernel_rfl
theorem hdRun1F (w : World) : Run1 hdR 8600 5 ask1 (w.withFollow "special-get-raises" false) := by
  intro os
  kernel_rfl
theorem hdRun2F (w : World) : Run1 hdR 8600 5 ask2 (w.withFollow "special-get-raises" false) := by
  intro os
  kernel_rfl
theorem hdRun0T (w : World) : Run0 hdR (PySem.W.view hdR.prog [66]) 8600 hdNames (w.withFollow "special-get-raises" true) := by
  intro os
  kernel_rfl
theorem hdRun1T (w : World) : Run1 hdR 8600 5 ask1 (w.withFollow "special-get-raises" true) := by
  intro os
  kernel_rfl
theorem hdRun2T (w : World) : Run1 hdR 8600 5 ask2 (w.withFollow "special-get-raises" true) := by
  intro os
  kernel_rfl
theorem hdRun (w : World) : HandSHeadRun.RunEq hdR (PySem.W.view hdR.prog [66]) hk (obP 5 ask1 ask2) 8600 hdNames w := PySem.W.byRow2 "special-get-raises" (fun w => run_parts (hdRun0F w) (hdRun1F w) (hdRun2F w)) (fun w => run_parts (hdRun0T w) (hdRun1T w) (hdRun2T w)) w
end Sb
set_option maxHeartbeats 4000000
/-! Sb, the base: frames of heaps, tuples as data, what the draws ask for; two rules for a module's own dict of texts. -/
namespace Sb
open PySem PySem.Spec PyProof.Rows L2
/-! ### heaps: all but one address stands as it was -/
def Gx (st : Addr) (H H' : Hp) : Prop := ∀ b o, b ≠ st → H b = some o → H' b = some o
theorem Gx.refl (st : Addr) (H : Hp) : Gx st H H := fun _ _ _ h => h
theorem Gx.trans {st : Addr} {H H1 H2 : Hp} (a : Gx st H H1) (b : Gx st H1 H2) : Gx st H H2 := fun c o n h => b c o n (a c o n h)
theorem Gx.of {st : Addr} {H H' : Hp} (h : Same H H') : Gx st H H' := fun b o _ e => h b o e
theorem same_new {H : Hp} {p : Addr} {o : HO} (h : H p = none) : Same H (upd H p o) := fun b x e => by
  rw [upd_ne (ne_of_none e h)]
  exact e
theorem Gx.new {st : Addr} {H : Hp} {p : Addr} {o : HO} (h : H p = none) : Gx st H (upd H p o) := .of (same_new h)
theorem Gx.at_ {st : Addr} {H : Hp} {o : HO} : Gx st H (upd H st o) := fun b x n e => by
  rw [upd_ne n]
  exact e
/-- something new that is changed later -/
theorem Gx.mut {st p : Addr} {H H' : Hp} {o : HO} (g : Gx st H H') (h : H p = none) : Gx st H (upd H' p o) := fun b x n e => by
  rw [upd_ne (ne_of_none e h)]
  exact g b x n e
theorem Gx.free {st l : Addr} {H H' : Hp} (g : Gx st H H') (hs : (H st).isSome) (hs' : (H' st).isSome) (h : H' l = none) : H l = none := by
  cases q : H l with
  | none => rfl
  | some o =>
    by_cases e : l = st
    · subst e
      rw [h] at hs'
      cases hs'
    · rw [g l o e q] at h
      cases h
/-! ### tuples as data -/
mutual
inductive Tp (H : Hp) : V → PyData → Prop
  | non : Tp H .non .none
  | bl (b : Bool) : Tp H (.bl b) (.bool b)
  | int (i : Int) : Tp H (.int i) (.int i)
  | str (x : Str) : Tp H (.str x) (.str x)
  | tup {a : Addr} {xs : List V} {ds : List PyData} : H a = some (.tup xs) → TpAll H xs ds → Tp H (.ref a) (.tuple ds)
inductive TpAll (H : Hp) : List V → List PyData → Prop
  | nil : TpAll H [] []
  | cons {v : V} {vs : List V} {d : PyData} {ds : List PyData} : Tp H v d → TpAll H vs ds → TpAll H (v :: vs) (d :: ds)
end
/-- the tuples stand as they were -/
def KT (H H' : Hp) : Prop := ∀ a xs, H a = some (.tup xs) → H' a = some (.tup xs)
theorem KT.of {H H' : Hp} (h : Same H H') : KT H H' := fun a xs e => h a _ e
theorem KT.trans {H H1 H2 : Hp} (a : KT H H1) (b : KT H1 H2) : KT H H2 := fun c o h => b c o (a c o h)
mutual
theorem Tp.mono {H H' : Hp} (k : KT H H') : ∀ (d : PyData) (v : V), Tp H v d → Tp H' v d
  | .none, _, h => by cases h; exact .non
  | .bool b, _, h => by cases h; exact .bl b
  | .int i, _, h => by cases h; exact .int i
  | .str x, _, h => by cases h; exact .str x
  | .list _, _, h => by cases h
  | .tuple ds, _, h => by
    cases h with
    | tup h1 h2 => exact .tup (k _ _ h1) (TpAll.mono k ds _ h2)
  | .dict _, _, h => by cases h
theorem TpAll.mono {H H' : Hp} (k : KT H H') : ∀ (ds : List PyData) (vs : List V), TpAll H vs ds → TpAll H' vs ds
  | [], _, h => by cases h; exact .nil
  | d :: ds, _, h => by
    cases h with
    | cons h1 h2 => exact .cons (Tp.mono k d _ h1) (TpAll.mono k ds _ h2)
end
mutual
theorem Tp.dp {K : PySem.W.Frag} {H : Hp} : ∀ (d : PyData) (v : V), Tp H v d → Dp K H v d
  | .none, _, h => by cases h; exact .non
  | .bool b, _, h => by cases h; exact .bl b
  | .int i, _, h => by cases h; exact .int i
  | .str x, _, h => by cases h; exact .str x
  | .list _, _, h => by cases h
  | .tuple ds, _, h => by
    cases h with
    | tup h1 h2 => exact .tup (.inl (.inl h1)) (TpAll.dp ds _ h2)
  | .dict _, _, h => by cases h
theorem TpAll.dp {K : PySem.W.Frag} {H : Hp} : ∀ (ds : List PyData) (vs : List V), TpAll H vs ds → DpAll K H vs ds
  | [], _, h => by cases h; exact .nil
  | d :: ds, _, h => by
    cases h with
    | cons h1 h2 => exact .cons (Tp.dp d _ h1) (TpAll.dp ds _ h2)
end
theorem ex_sqT {K : PySem.W.Frag} {H H' : Hp} {a : Addr} {xs : List V} (e : Same H H') (h : SqT K H a xs) : SqT K H' a xs := by
  rcases h with (h | ⟨o, h⟩) | h
  · exact .inl (.inl (e _ _ h))
  · exact .inl (.inr ⟨o, e _ _ h⟩)
  · exact .inr h
mutual
theorem Dp.mono {K : PySem.W.Frag} {H H' : Hp} (k : Same H H') : ∀ (d : PyData) (v : V), Dp K H v d → Dp K H' v d
  | .none, _, h => by cases h; exact .non
  | .bool b, _, h => by cases h; exact .bl b
  | .int i, _, h => by cases h; exact .int i
  | .str x, _, h => by cases h; exact .str x
  | .list ds, _, h => by
    cases h with
    | lst h1 h2 => exact .lst (k.seq h1) (DpAll.mono k ds _ h2)
  | .tuple ds, _, h => by
    cases h with
    | tup h1 h2 => exact .tup (ex_sqT k h1) (DpAll.mono k ds _ h2)
  | .dict _, _, h => by cases h
theorem DpAll.mono {K : PySem.W.Frag} {H H' : Hp} (k : Same H H') : ∀ (ds : List PyData) (vs : List V), DpAll K H vs ds → DpAll K H' vs ds
  | [], _, h => by cases h; exact .nil
  | d :: ds, _, h => by
    cases h with
    | cons h1 h2 => exact .cons (Dp.mono k d _ h1) (DpAll.mono k ds _ h2)
end
theorem DpAll.len {K : PySem.W.Frag} {H : Hp} : ∀ {vs : List V} {ds : List PyData}, DpAll K H vs ds → vs.length = ds.length
  | [], _, h => by cases h; rfl
  | _ :: _, _, h => by
    cases h with
    | cons _ h2 => simp only [List.length_cons, DpAll.len h2]
theorem TpAll.len {H : Hp} : ∀ {vs : List V} {ds : List PyData}, TpAll H vs ds → vs.length = ds.length
  | [], _, h => by cases h; rfl
  | _ :: _, _, h => by
    cases h with
    | cons _ h2 => simp only [List.length_cons, TpAll.len h2]
theorem DpAll.get {K : PySem.W.Frag} {H : Hp} : ∀ {vs : List V} {ds : List PyData} {i : Nat} {v : V}, DpAll K H vs ds → vs[i]? = some v → ∃ d, ds[i]? = some d ∧ Dp K H v d
  | [], _, _, _, h, e => by simp at e
  | _ :: _, _, 0, _, h, e => by
    cases h with
    | cons h1 _ =>
      simp at e
      subst e
      exact ⟨_, rfl, h1⟩
  | _ :: _, _, i + 1, _, h, e => by
    cases h with
    | cons _ h2 =>
      obtain ⟨d, h3, h4⟩ := DpAll.get (i := i) h2 (by simpa using e)
      exact ⟨d, by simpa using h3, h4⟩
theorem DpAll.got {K : PySem.W.Frag} {H : Hp} {vs : List V} {ds : List PyData} {i : Nat} {d : PyData} (h : DpAll K H vs ds) (e : ds[i]? = some d) : ∃ v, vs[i]? = some v ∧ Dp K H v d := by
  have hi : i < vs.length := by
    rw [DpAll.len h]
    exact (List.getElem?_eq_some_iff.mp e).1
  obtain ⟨d', h1, h2⟩ := DpAll.get h (List.getElem?_eq_getElem hi)
  rw [e] at h1
  cases h1
  exact ⟨_, List.getElem?_eq_getElem hi, h2⟩
theorem TpAll.ints {H : Hp} : ∀ ns : List Int, TpAll H (ns.map V.int) (ns.map PyData.int)
  | [] => .nil
  | n :: ns => .cons (.int n) (TpAll.ints ns)
theorem DpAll.ints {K : PySem.W.Frag} {H : Hp} (ns : List Int) : DpAll K H (ns.map V.int) (ns.map PyData.int) := TpAll.dp _ _ (TpAll.ints ns)
theorem TpAll.take {H : Hp} : ∀ {vs : List V} {ds : List PyData} (n : Nat), TpAll H vs ds → TpAll H (vs.take n) (ds.take n)
  | _, _, 0, _ => .nil
  | _, _, _ + 1, .nil => .nil
  | _, _, n + 1, .cons h1 h2 => .cons h1 (TpAll.take n h2)
/-! ### what == takes -/
theorem lay_ints : ∀ ns : List Int, PyData.canLayAll0 (ns.map PyData.int) = true
  | [] => rfl
  | n :: ns => by
    rw [List.map_cons, PyData.canLayAll0, lay_ints ns]
    rfl
theorem dep_ints : ∀ ns : List Int, PyData.depthAll (ns.map PyData.int) = 0
  | [] => rfl
  | n :: ns => by
    rw [List.map_cons, PyData.depthAll, dep_ints ns]
    rfl
theorem shaped_of {d : PyData} (h : d.canLay0 = true) (k : d.depth ≤ 64) : SeqAt.shaped d = true := by
  unfold SeqAt.shaped
  rw [h, decide_eq_true k]
  rfl
theorem shaped_ints (ns : List Int) : SeqAt.shaped (.list (ns.map PyData.int)) = true :=
  shaped_of (by rw [PyData.canLay0]; exact lay_ints ns) (by rw [PyData.depth, dep_ints]; omega)
theorem shaped_nil : SeqAt.shaped (.list []) = true := shaped_ints []
theorem eqvAll_nil : ∀ ds : List PyData, PyData.eqvAll ds [] = ds.isEmpty
  | [] => rfl
  | _ :: _ => rfl
theorem eqv_nil (ds : List PyData) : PyData.eqv (.list ds) (.list []) = ds.isEmpty := by
  rw [PyData.eqv, eqvAll_nil]
/-! ### a module's own dict of texts to ints -/
def keyD (e : DictEntry) : Option Str := match e.key with
  | .str x _ => some x
  | _ => none
def valD (e : DictEntry) : Option Int := match e.val with
  | .int i _ => some i
  | _ => none
def lookM : List (Str × Int) → Str → Option Int
  | [], _ => none
  | (y, i) :: r, x => if y = x then some i else lookM r x
structure KDm (K : PySem.W.Frag) (w : World) (a : Addr) (m : List (Str × Int)) : Prop where
  ex : ∃ es n, K.lookup a = some ⟨.type "dict", none, .dict es n, #[]⟩ ∧ PySem.W.KeysLit w.params es.toList ∧ es.toList.map (fun e => (keyD e, valD e)) = m.map fun p => (some p.1, some p.2)
  low : (a == sysModules) = false
theorem find_dm : ∀ {es : List DictEntry} {m : List (Str × Int)}, es.map (fun e => (keyD e, valD e)) = m.map (fun p => (some p.1, some p.2)) → ∀ x : Str,
    (lookM m x = none → (es.find? fun e => Value.isStrOf x e.key) = none) ∧ ∀ i, lookM m x = some i → ∃ e t, (es.find? fun e => Value.isStrOf x e.key) = some e ∧ e.val = .int i t
  | [], [], _, x => ⟨fun _ => rfl, fun i h => by cases h⟩
  | [], _ :: _, h, _ => by simp at h
  | _ :: _, [], h, _ => by simp at h
  | e :: es, (y, j) :: m, h, x => by
    rw [List.map_cons, List.map_cons] at h
    injection h with h1 h2
    have hk : keyD e = some y := congrArg Prod.fst h1
    have hv : valD e = some j := congrArg Prod.snd h1
    obtain ⟨t, ek⟩ : ∃ t, e.key = .str y t := by
      unfold keyD at hk
      split at hk
      · rename_i z t q
        cases hk
        exact ⟨t, q⟩
      · cases hk
    obtain ⟨t', ev⟩ : ∃ t, e.val = .int j t := by
      unfold valD at hv
      split at hv
      · rename_i z t q
        cases hv
        exact ⟨t, q⟩
      · cases hv
    have hb : Value.isStrOf x e.key = (y == x) := by rw [ek]; rfl
    have ih := find_dm h2 x
    by_cases hx : y = x
    · have hl : lookM ((y, j) :: m) x = some j := by unfold lookM; rw [if_pos hx]
      have hf : (List.find? (fun e => Value.isStrOf x e.key) (e :: es)) = some e := List.find?_cons_of_pos (by rw [hb]; exact beq_iff_eq.mpr hx)
      rw [hl, hf]
      exact ⟨fun q => (nomatch q), fun i q => ⟨e, t', rfl, by rw [← Option.some.inj q]; exact ev⟩⟩
    · have hl : lookM ((y, j) :: m) x = lookM m x := by conv => lhs; unfold lookM; rw [if_neg hx]
      have hf : (List.find? (fun e => Value.isStrOf x e.key) (e :: es)) = List.find? (fun e => Value.isStrOf x e.key) es := List.find?_cons_of_neg (by rw [hb]; exact fun q => hx (beq_iff_eq.mp q))
      rw [hl, hf]
      exact ih
def rInDm (K : PySem.W.Frag) (w : World) (neg : Bool) : R2 := fun x y H Q => ∃ p z m, x = .str z ∧ y = .ref p ∧ KDm K w p m ∧ Q (.bl (if neg then !(lookM m z).isSome else (lookM m z).isSome)) H
def rIxDm (K : PySem.W.Frag) (w : World) : R2 := fun x y H Q => ∃ p z m i, x = .ref p ∧ y = .str z ∧ KDm K w p m ∧ lookM m z = some i ∧ Q (.int i) H
section
variable {X : Cx}
theorem dm_some {K : PySem.W.Frag} {es : Array DictEntry} {m : List (Str × Int)} (h : es.toList.map (fun e => (keyD e, valD e)) = m.map fun p => (some p.1, some p.2)) (z : Str) : (findBy Value.isStrOf es z).isSome = (lookM m z).isSome := by
  have q := find_dm h z
  unfold findBy
  rw [← Array.find?_toList]
  cases e : lookM m z with
  | none => rw [q.1 e]; rfl
  | some i =>
    obtain ⟨d, t, e1, e2⟩ := q.2 i e
    rw [e1]
    rfl
theorem op_notInDm : OpR X (compareOp .NotIn) (rInDm X.K X.w true) := by
  intro pins s σ H x y v u Q I rx ry h
  obtain ⟨p, z, m, rfl, rfl, D, q⟩ := h
  obtain ⟨es, n, hl, hk, hm⟩ := D.ex
  obtain rfl : u = Value.ref p := ry
  obtain ⟨t, rfl⟩ := rx
  refine wpAny_notIn_of (strKind_is X.prog X.w z t) D.low (PySem.W.mapOf_K (prog := X.prog) (w := X.w) I.kIn hl hk) ⟨.bl _, H, I.tok _, rfl, ?_⟩
  rw [dm_some (K := X.K) hm z]
  exact q
theorem ix_dm : IxR X (rIxDm X.K X.w) := by
  intro value slice pins s σ H x y v u Q I rx ry h hs
  obtain ⟨p, z, m, i, rfl, rfl, D, e, q⟩ := h
  obtain ⟨es, n, hl, hk, hm⟩ := D.ex
  obtain rfl : v = Value.ref p := rx
  obtain ⟨t, rfl⟩ := ry
  obtain ⟨d, t', e1, e2⟩ := (find_dm hm z).2 i e
  have M := PySem.W.mapOf_K (prog := X.prog) (w := X.w) I.kIn hl hk
  have hf : findBy Value.isStrOf es z = some (.int i t') := by
    unfold findBy
    rw [← Array.find?_toList, e1]
    show some d.val = _
    rw [e2]
  exact tail_any M.typeIs slot_dict_getitem.lookup (wpAny_getItem_of (strKind_is X.prog X.w z t) M hf ⟨.int i, H, I.tok _, ⟨_, rfl⟩, q⟩) hs
theorem OpR.or' {f : Value → Value → Sem Value} {r r' : R2} (h : OpR X f r) (h' : OpR X f r') : OpR X f (fun x y H Q => r x y H Q ∨ r' x y H Q) := by
  intro pins s σ H x y v u Q I rx ry q
  rcases q with q | q
  · exact h pins s σ H x y v u Q I rx ry q
  · exact h' pins s σ H x y v u Q I rx ry q
end
/-! ### what a draw asks for: the script, the state -/
structure En (K : PySem.W.Frag) (a st : Addr) (ns : List Int) (n : Nat) (H : Hp) : Prop where
  sq : ∀ H', Gx st H H' → SqL K H' a (ns.map V.int)
  len : ns.length ≤ 63
  zs : ∃ zs, H st = some (.lst zs) ∧ zs.length ≤ n
  small : n ≤ 100000
section
variable {K : PySem.W.Frag} {a st : Addr} {ns : List Int} {n m : Nat} {H H' : Hp}
theorem En.next (E : En K a st ns n H) (g : Gx st H H') (z : ∃ zs, H' st = some (.lst zs) ∧ zs.length ≤ m) (hm : m ≤ 100000) : En K a st ns m H' :=
  ⟨fun H2 g2 => E.sq H2 (g.trans g2), E.len, z, hm⟩
theorem En.st_ne (E : En K a st ns n H) {p : Addr} (h : H p = none) : p ≠ st := fun e => by
  obtain ⟨zs, q, _⟩ := E.zs
  rw [e, q] at h
  cases h
theorem En.lst (E : En K a st ns n H) : SqL K H a (ns.map V.int) := E.sq H (Gx.refl _ _)
end
end Sb
namespace Sb
open PySem PySem.Spec PyProof.Rows L2
/-! ### what kind a datum is -/
def tyD : PyData → String
  | .none => "NoneType"
  | .bool _ => "bool"
  | .int _ => "int"
  | .str _ => "str"
  | .list _ => "list"
  | .tuple _ => "tuple"
  | .dict _ => "dict"
def isInt : PyData → Bool
  | .int _ => true
  | .bool _ => true
  | _ => false
def isBool : PyData → Bool
  | .bool _ => true
  | _ => false
def isStr : PyData → Bool
  | .str _ => true
  | _ => false
def isTup : PyData → Bool
  | .tuple _ => true
  | _ => false
theorem kit_int (K : PySem.W.Frag) : ∀ d, PySem.W.kitOne K (.type (tyD d)) (.type "int") = some (isInt d)
  | .none => kit_ty (by show kitB "NoneType" "int" = some false; decide +kernel)
  | .bool _ => kit_ty (by show kitB "bool" "int" = some true; decide +kernel)
  | .int _ => kit_ty (by show kitB "int" "int" = some true; decide +kernel)
  | .str _ => kit_ty (by show kitB "str" "int" = some false; decide +kernel)
  | .list _ => kit_ty (by show kitB "list" "int" = some false; decide +kernel)
  | .tuple _ => kit_ty (by show kitB "tuple" "int" = some false; decide +kernel)
  | .dict _ => kit_ty (by show kitB "dict" "int" = some false; decide +kernel)
theorem kit_bool (K : PySem.W.Frag) : ∀ d, PySem.W.kitOne K (.type (tyD d)) (.type "bool") = some (isBool d)
  | .none => kit_ty (by show kitB "NoneType" "bool" = some false; decide +kernel)
  | .bool _ => kit_ty (by show kitB "bool" "bool" = some true; decide +kernel)
  | .int _ => kit_ty (by show kitB "int" "bool" = some false; decide +kernel)
  | .str _ => kit_ty (by show kitB "str" "bool" = some false; decide +kernel)
  | .list _ => kit_ty (by show kitB "list" "bool" = some false; decide +kernel)
  | .tuple _ => kit_ty (by show kitB "tuple" "bool" = some false; decide +kernel)
  | .dict _ => kit_ty (by show kitB "dict" "bool" = some false; decide +kernel)
theorem kit_str (K : PySem.W.Frag) : ∀ d, PySem.W.kitOne K (.type (tyD d)) (.type "str") = some (isStr d)
  | .none => kit_ty (by show kitB "NoneType" "str" = some false; decide +kernel)
  | .bool _ => kit_ty (by show kitB "bool" "str" = some false; decide +kernel)
  | .int _ => kit_ty (by show kitB "int" "str" = some false; decide +kernel)
  | .str _ => kit_ty (by show kitB "str" "str" = some true; decide +kernel)
  | .list _ => kit_ty (by show kitB "list" "str" = some false; decide +kernel)
  | .tuple _ => kit_ty (by show kitB "tuple" "str" = some false; decide +kernel)
  | .dict _ => kit_ty (by show kitB "dict" "str" = some false; decide +kernel)
theorem kit_tup (K : PySem.W.Frag) : ∀ d, PySem.W.kitOne K (.type (tyD d)) (.type "tuple") = some (isTup d)
  | .none => kit_ty (by show kitB "NoneType" "tuple" = some false; decide +kernel)
  | .bool _ => kit_ty (by show kitB "bool" "tuple" = some false; decide +kernel)
  | .int _ => kit_ty (by show kitB "int" "tuple" = some false; decide +kernel)
  | .str _ => kit_ty (by show kitB "str" "tuple" = some false; decide +kernel)
  | .list _ => kit_ty (by show kitB "list" "tuple" = some false; decide +kernel)
  | .tuple _ => kit_ty (by show kitB "tuple" "tuple" = some true; decide +kernel)
  | .dict _ => kit_ty (by show kitB "dict" "tuple" = some false; decide +kernel)
theorem sqL_ty {K : PySem.W.Frag} {H : Hp} {a : Addr} {xs : List V} (h : SqL K H a xs) : TyX K H (.ref a) (.type "list") := by
  rcases h with (h | ⟨o, h⟩) | ⟨o, its, n, h, c, _⟩
  · exact .base (.lst h)
  · exact .base (.frz h)
  · exact .kList h c
theorem sqT_ty {K : PySem.W.Frag} {H : Hp} {a : Addr} {xs : List V} (h : SqT K H a xs) : TyX K H (.ref a) (.type "tuple") := by
  rcases h with (h | ⟨o, h⟩) | ⟨o, its, n, h, c, _⟩
  · exact .base (.tup h)
  · exact .fTuple h
  · exact .kTuple h c
theorem dp_ty {K : PySem.W.Frag} {H : Hp} {v : V} {d : PyData} (h : Dp K H v d) : TyX K H v (.type (tyD d)) := by
  cases h with
  | non => exact .base .non
  | bl b => exact .base (.bl b)
  | int i => exact .base (.int i)
  | str x => exact .base (.str x)
  | lst hs _ => exact sqL_ty hs
  | tup hs _ => exact sqT_ty hs
/-! ### texts of some size within a datum -/
mutual
def smD : PyData → Bool
  | .str x => decide (x.length ≤ 100000)
  | .list xs => smDs xs
  | .tuple xs => smDs xs
  | .none => true
  | .bool _ => true
  | .int _ => true
  | .dict _ => true
def smDs : List PyData → Bool
  | [] => true
  | x :: xs => smD x && smDs xs
end
theorem smDs_get : ∀ {ds : List PyData} {i : Nat} {d : PyData}, smDs ds = true → ds[i]? = some d → smD d = true
  | [], _, _, _, e => by simp at e
  | x :: xs, 0, _, h, e => by
    rw [smDs, Bool.and_eq_true] at h
    simp at e
    rw [← e]
    exact h.1
  | x :: xs, i + 1, _, h, e => by
    rw [smDs, Bool.and_eq_true] at h
    exact smDs_get h.2 (by simpa using e)
/-! ### the program's answers -/
def numD : PyData → Int → Int → Bool
  | .int i, lo, hi => decide (lo ≤ i) && decide (i ≤ hi)
  | _, _, _ => false
def tupD : PyData → Int → Int → Bool
  | .tuple ds, lo, hi => decide (lo ≤ (ds.length : Int)) && decide ((ds.length : Int) ≤ hi)
  | _, _, _ => false
def letterOk (c : Nat) : Bool := decide (97 ≤ c) && decide (c ≤ 122)
def textD : PyData → Int → Bool
  | .str z, n => decide ((z.length : Int) ≤ n) && z.cps.toList.all letterOk
  | _, _ => false
def ltD : PyData → PyData → Bool
  | .int i, .int j => decide (i < j)
  | .str x, .str y => decide (x.cps.toList < y.cps.toList)
  | .tuple [.str x, .int i, .int j], .tuple [.str y, .int k, .int l] => decide (x.cps.toList < y.cps.toList) || (decide (x = y) && (decide (i < k) || (decide (i = k) && decide (j < l))))
  | _, _ => false
def ascD : List PyData → Bool
  | x :: y :: r => ltD x y && ascD (y :: r)
  | _ => true
def seqD : PyData → List PyData
  | .tuple ds => ds
  | _ => []
def thingD (d : PyData) : Bool := tupD d 1 4 && (seqD d).all (fun x => textD x 4) && ascD (seqD d)
def prodD : List PyData → Nat
  | [] => 1
  | d :: r => (seqD d).length * prodD r
def thingsD (d : PyData) : Bool := tupD d 1 5 && (seqD d).all thingD && decide (prodD (seqD d) ≤ 256)
def readingD : PyData → Int → Int → Bool
  | .tuple [.str w, d], m, s => if w = "thing" then numD d 0 (m - 1) else decide (w = ("step" : Str)) && numD d 0 (s - 1)
  | _, _, _ => false
def mREADINGS' : List (Str × Int) := [("join", 2), ("sort", 1), ("turn", 1), ("first", 1), ("rest", 1), ("less", 2), ("same", 2), ("pick", 3)]
def stepD : PyData → Int → Int → Bool
  | .tuple [.str o, rs], m, s => match lookM mREADINGS' o with
    | some k => tupD rs k k && (seqD rs).all (fun x => readingD x m s)
    | none => false
  | _, _, _ => false
def stepsAllD : List PyData → Int → Nat → Bool
  | [], _, _ => true
  | d :: r, m, s => stepD d m (s : Int) && stepsAllD r m (s + 1)
def stepsD (d : PyData) (m : Int) : Bool := tupD d 1 8 && stepsAllD (seqD d) m 0
def madeD (d : PyData) (s : Int) : Bool := tupD d 1 3 && (seqD d).all (fun x => numD x 0 (s - 1)) && ascD (seqD d)
def recipeD : PyData → Bool
  | .tuple [t, s, m] => thingsD t && (stepsD s ((seqD t).length : Int) && madeD m ((seqD s).length : Int))
  | _ => false
end Sb
namespace Sb
open PySem PySem.Spec PyProof.Rows L2
/-! ### >= of data of one kind: ints, texts, acts -/
def cmpOk : PyData → PyData → Prop
  | .int _, .int _ => True
  | .str _, .str _ => True
  | .tuple [.str _, .int _, .int _], .tuple [.str _, .int _, .int _] => True
  | _, _ => False
theorem al_int (i j : Int) : PySem.W.alike (.int i) (.int j) = true := rfl
theorem al_str (x y : Str) : PySem.W.alike (.str x) (.str y) = true := rfl
theorem ne_int {i j : Int} (h : i ≠ j) : PyData.eqv (.int i) (.int j) = false := by
  show (i == j) = false
  exact beq_false_of_ne h
theorem ne_strD {x y : Str} (h : x ≠ y) : PyData.eqv (.str x) (.str y) = false := by
  show (x == y) = false
  exact beq_false_of_ne h
theorem lt_last (i j : Int) : PySem.W.dataLt (.tuple [.int i]) (.tuple [.int j]) = decide (i < j) := by
  by_cases h : i = j
  · subst h
    rw [PySem.W.dataLt_tuple, PySem.W.dataLt_all_yes (al_int i i) (PySem.W.eqv_refl_alike (.int i) rfl), decide_eq_false (Int.lt_irrefl _)]
    decide +kernel
  · rw [PySem.W.dataLt_tuple, PySem.W.dataLt_all_no (al_int i j) (ne_int h), PySem.W.dataLt_int]
theorem lt_act (x y : Str) (i j k l : Int) : PySem.W.dataLt (.tuple [.str x, .int i, .int j]) (.tuple [.str y, .int k, .int l]) = ltD (.tuple [.str x, .int i, .int j]) (.tuple [.str y, .int k, .int l]) := by
  show _ = (decide (x.cps.toList < y.cps.toList) || (decide (x = y) && (decide (i < k) || (decide (i = k) && decide (j < l)))))
  rw [PySem.W.dataLt_tuple]
  by_cases h : x = y
  · subst h
    rw [PySem.W.dataLt_all_yes (al_str x x) (PySem.W.eqv_refl_alike (.str x) rfl), decide_eq_false (List.lt_irrefl _), decide_eq_true rfl, Bool.false_or, Bool.true_and]
    by_cases g : i = k
    · subst g
      rw [PySem.W.dataLt_all_yes (al_int i i) (PySem.W.eqv_refl_alike (.int i) rfl), ← PySem.W.dataLt_tuple, lt_last, decide_eq_false (Int.lt_irrefl _), decide_eq_true rfl, Bool.false_or, Bool.true_and]
    · rw [PySem.W.dataLt_all_no (al_int i k) (ne_int g), PySem.W.dataLt_int, decide_eq_false g, Bool.false_and, Bool.or_false]
  · rw [PySem.W.dataLt_all_no (al_str x y) (ne_strD h), PySem.W.dataLt_str, decide_eq_false h, Bool.false_and, Bool.or_false]
theorem cmp_data : ∀ {d e : PyData}, cmpOk d e → PySem.W.alike d e = true ∧ d ≠ .none ∧ d.depth ≤ 1 ∧ PySem.W.dataLt d e = ltD d e
  | .int i, .int j, _ => ⟨rfl, nofun, Nat.zero_le _, PySem.W.dataLt_int i j⟩
  | .str x, .str y, _ => ⟨rfl, nofun, Nat.zero_le _, PySem.W.dataLt_str x y⟩
  | .tuple [.str x, .int i, .int j], .tuple [.str y, .int k, .int l], _ => ⟨rfl, nofun, Nat.le_refl 1, lt_act x y i j k l⟩
/-! ### x in a tuple of data -/
theorem asc_of : ∀ {ds : List PyData}, (∀ (j : Nat) (x y : PyData), ds[j]? = some x → ds[j + 1]? = some y → ltD x y = true) → ascD ds = true
  | [], _ => rfl
  | [_], _ => rfl
  | x :: y :: r, h => by
    rw [ascD, h 0 x y rfl rfl, asc_of (ds := y :: r) fun j a b ea eb => h (j + 1) a b ea eb]
    rfl
theorem asc_at : ∀ {ds : List PyData} {j : Nat} {x y : PyData}, ascD ds = true → ds[j]? = some x → ds[j + 1]? = some y → ltD x y = true
  | [], _, _, _, _, e, _ => by simp at e
  | [_], 0, _, _, _, _, e => by simp at e
  | [_], j + 1, _, _, _, e, _ => by simp at e
  | a :: b :: r, 0, x, y, h, e1, e2 => by
    rw [ascD, Bool.and_eq_true] at h
    cases e1
    cases e2
    exact h.1
  | a :: b :: r, j + 1, x, y, h, e1, e2 => by
    rw [ascD, Bool.and_eq_true] at h
    exact asc_at (ds := b :: r) h.2 e1 e2
end Sb
/-! Sb, evaluation over data: I the part of the heap that nobody changes (all tuples, the lists that stay); what an expression evaluates to, as data. -/
namespace Sb
open PySem PySem.Spec PyProof.Rows L2
structure Im (I H : Hp) : Prop where
  sub : Same I H
  tup : ∀ b xs, H b = some (.tup xs) → I b = some (.tup xs)
structure Ext (I H I' H' : Hp) : Prop where
  im : Im I' H'
  ii : Same I I'
  hh : Same H H'
  old : ∀ b o, H b = some o → I' b = I b
theorem Ext.refl {I H : Hp} (m : Im I H) : Ext I H I H := ⟨m, Same.refl _, Same.refl _, fun _ _ _ => rfl⟩
theorem Ext.trans {I H I1 H1 I2 H2 : Hp} (a : Ext I H I1 H1) (b : Ext I1 H1 I2 H2) : Ext I H I2 H2 :=
  ⟨b.im, a.ii.trans b.ii, a.hh.trans b.hh, fun c o e => (b.old c o (a.hh c o e)).trans (a.old c o e)⟩
/-- a new object that stays -/
theorem Ext.lay {I H : Hp} {p : Addr} {o : HO} (m : Im I H) (hp : H p = none) : Ext I H (upd I p o) (upd H p o) := by
  have ip : I p = none := m.sub.free hp
  refine ⟨⟨fun b x e => ?_, fun b xs e => ?_⟩, same_new ip, same_new hp, fun b x e => ?_⟩
  · by_cases h : b = p
    · subst h
      rw [upd_same] at e ⊢
      exact e
    · rw [upd_ne h] at e ⊢
      exact m.sub _ _ e
  · by_cases h : b = p
    · subst h
      rw [upd_same] at e ⊢
      exact e
    · rw [upd_ne h] at e ⊢
      exact m.tup _ _ e
  · rw [upd_ne (ne_of_none e hp)]
/-- a new list that will change -/
theorem Ext.cell {I H : Hp} {p : Addr} {xs : List V} (m : Im I H) (hp : H p = none) : Ext I H I (upd H p (.lst xs)) := by
  refine ⟨⟨fun b x e => same_new hp _ _ (m.sub _ _ e), fun b ys e => ?_⟩, Same.refl _, same_new hp, fun _ _ _ => rfl⟩
  by_cases h : b = p
  · subst h
    rw [upd_same] at e
    cases e
  · rw [upd_ne h] at e
    exact m.tup _ _ e
/-- a cell is changed -/
theorem Im.put {I H : Hp} {p : Addr} {xs : List V} (m : Im I H) (ip : I p = none) : Im I (upd H p (.lst xs)) := by
  refine ⟨fun b x e => ?_, fun b ys e => ?_⟩
  · rw [upd_ne (ne_of_none e ip)]
    exact m.sub _ _ e
  · by_cases h : b = p
    · subst h
      rw [upd_same] at e
      cases e
    · rw [upd_ne h] at e
      exact m.tup _ _ e
mutual
theorem Tp.im {K : PySem.W.Frag} {I H : Hp} (m : Im I H) : ∀ (d : PyData) (v : V), Tp H v d → Dp K I v d
  | .none, _, h => by cases h; exact .non
  | .bool b, _, h => by cases h; exact .bl b
  | .int i, _, h => by cases h; exact .int i
  | .str x, _, h => by cases h; exact .str x
  | .list _, _, h => by cases h
  | .tuple ds, _, h => by
    cases h with
    | tup h1 h2 => exact .tup (.inl (.inl (m.tup _ _ h1))) (TpAll.im m ds _ h2)
  | .dict _, _, h => by cases h
theorem TpAll.im {K : PySem.W.Frag} {I H : Hp} (m : Im I H) : ∀ (ds : List PyData) (vs : List V), TpAll H vs ds → DpAll K I vs ds
  | [], _, h => by cases h; exact .nil
  | d :: ds, _, h => by
    cases h with
    | cons h1 h2 => exact .cons (Tp.im m d _ h1) (TpAll.im m ds _ h2)
end
/-! ### what an expression evaluates to -/
def EvD (K : PySem.W.Frag) (te : TE) (σ : L2.St) (I : Hp) (d : PyData) : Prop := ∀ I1 H1, Same I I1 → Im I1 H1 → ∀ Q : VK, (∀ v I2 H2, Ext I1 H1 I2 H2 → Dp K I2 v d → Q v H2) → te σ H1 Q
def EvDs (K : PySem.W.Frag) (ta : TA) (σ : L2.St) (I : Hp) (ds : List PyData) : Prop := ∀ I1 H1, Same I I1 → Im I1 H1 → ∀ Q : List V → Hp → Prop, (∀ vs I2 H2, Ext I1 H1 I2 H2 → DpAll K I2 vs ds → Q vs H2) → ta σ H1 Q
section
variable {K : PySem.W.Frag} {σ : L2.St} {I I0 H : Hp} {ta tb te : TE} {t u : TT} {a b d : PyData} {ds xs ys : List PyData} {r : R2}
theorem EvD.mono (h : EvD K te σ I0 d) (s : Same I0 I) : EvD K te σ I d := fun I1 H1 s1 m Q q => h I1 H1 (s.trans s1) m Q q
theorem EvDs.mono {ta : TA} (h : EvDs K ta σ I0 ds) (s : Same I0 I) : EvDs K ta σ I ds := fun I1 H1 s1 m Q q => h I1 H1 (s.trans s1) m Q q
/-- the part of a list between two places -/
def cutD (xs : List PyData) (lo hi : Option Int) : List PyData := (xs.drop (HT.sIx xs.length 0 lo)).take (HT.sIx xs.length xs.length hi - HT.sIx xs.length 0 lo)
theorem DpAll.drop {vs : List V} (n : Nat) (h : DpAll K H vs ds) : DpAll K H (vs.drop n) (ds.drop n) := by
  induction n generalizing vs ds with
  | zero => exact h
  | succ n ih =>
    cases h with
    | nil => exact .nil
    | cons h1 h2 => exact ih h2
theorem DpAll.take {vs : List V} (n : Nat) (h : DpAll K H vs ds) : DpAll K H (vs.take n) (ds.take n) := by
  induction n generalizing vs ds with
  | zero => exact .nil
  | succ n ih =>
    cases h with
    | nil => exact .nil
    | cons h1 h2 => exact .cons h1 (ih h2)
theorem DpAll.app {vs ws : List V} (h : DpAll K H vs xs) (g : DpAll K H ws ys) : DpAll K H (vs ++ ws) (xs ++ ys) := by
  induction vs generalizing xs with
  | nil =>
    cases h
    exact g
  | cons v vs ih =>
    cases h with
    | cons h1 h2 => exact .cons h1 (ih h2)
theorem DpAll.cut {vs : List V} (h : DpAll K H vs ds) (lo hi : Option Int) : DpAll K H (cutV vs lo hi) (cutD ds lo hi) := by
  unfold cutV cutD
  rw [DpAll.len h]
  exact DpAll.take _ (DpAll.drop _ h)
/-! operators -/
def repD (k : Nat) (xs : List PyData) : List PyData := (List.replicate k xs).flatten
theorem DpAll.rep {vs : List V} (h : DpAll K H vs ds) : ∀ k : Nat, DpAll K H (List.replicate k vs).flatten (repD k ds)
  | 0 => .nil
  | k + 1 => by
    unfold repD
    rw [List.replicate_succ, List.replicate_succ, List.flatten_cons, List.flatten_cons]
    exact DpAll.app h (DpAll.rep h k)
/-! built-ins -/
/-! bools -/
theorem bls_of : ∀ {bs : List Bool} {vs : List V}, DpAll K H vs (bs.map PyData.bool) → vs = bs.map V.bl
  | [], _, h => by cases h; rfl
  | b :: bs, _, h => by
    cases h with
    | cons h1 h2 =>
      cases h1
      rw [bls_of h2]
      rfl
theorem Ext.put {I' H H' : Hp} {p : Addr} {xs : List V} (e : Ext I H I' H') (hp : H p = none) (ip : I' p = none) : Ext I H I' (upd H' p (.lst xs)) :=
  ⟨e.im.put ip, e.ii, fun b o h => by rw [upd_ne (ne_of_none h hp)]; exact e.hh _ _ h, e.old⟩
/-- a cell that is not changed any more -/
theorem Im.freeze {p : Addr} {vs : List V} (m : Im I H) (hp : H p = some (.lst vs)) : Im (upd I p (.lst vs)) H := by
  refine ⟨fun b o e => ?_, fun b xs e => ?_⟩
  · by_cases h : b = p
    · subst h
      rw [upd_same] at e
      cases e
      exact hp
    · rw [upd_ne h] at e
      exact m.sub _ _ e
  · rw [upd_ne (ne_of e hp (by intro z; cases z))]
    exact m.tup _ _ e
/-! ### statements, with I and H at hand -/
end
end Sb
namespace Sb
open PySem PySem.Spec PyProof.Rows L2
section
variable {K : PySem.W.Frag} {σ : L2.St} {I I0 H : Hp} {ta tb te : TE} {t u : TT} {a b d : PyData} {ds xs ys : List PyData} {r : R2}
theorem En.ext {A st : Addr} {ns : List Int} {n : Nat} {I I' H' : Hp} (E : En K A st ns n H) (e : Ext I H I' H') : En K A st ns n H' :=
  E.next (.of e.hh) (by obtain ⟨zs, ez, hz⟩ := E.zs; exact ⟨zs, e.hh _ _ ez, hz⟩) E.small
theorem En.put {A st p : Addr} {ns : List Int} {n : Nat} {H0 : Hp} {ys : List V} (E0 : En K A st ns 0 H0) (g : Gx st H0 H) (E : En K A st ns n H) (hp : H0 p = none) : En K A st ns n (upd H p (.lst ys)) := by
  obtain ⟨zs, ez, hz⟩ := E.zs
  exact E0.next (g.mut hp) ⟨zs, by rw [upd_ne (E0.st_ne hp).symm]; exact ez, hz⟩ E.small
end
/-- Same, by the chain of what is known: each heap has one that it came of -/
local macro_rules | `(tactic| walk_at "sb_same") => `(tactic| first
  | exact Same.refl _
  | assumption
  | (refine Same.trans ?_ (by assumption); walk_at "sb_same"))
end Sb
namespace Sb
open PySem PySem.Spec PyProof.Rows L2
/-- set(a tuple of ints) -/
def rSetTupI (K : PySem.W.Frag) (w : World) : List V → Hp → VK → Prop := fun xs H Q => ∃ (p : Addr) (ns : List Int), xs = [.ref p] ∧ SqT K H p (ns.map V.int) ∧ ns.length ≤ 1000 ∧
  ∀ (a : Addr) (c : Nat), H a = none → c ≤ ns.length → Q (.ref a) (upd H a (SetO w a (fun j => decide (j ∈ ns)) c))
theorem cr_setTupI {X : Cx} (hc : X.calm = true) : CallR X (.type "set") (rSetTupI X.K X.w) := by
  intro pins s σ H xs us Q I r h
  obtain ⟨p, ns, rfl, hq, hl, q⟩ := h
  rw [Vals.ref1 r]
  obtain ⟨its, rv, pt, hz⟩ := I.tuple hq
  have hi : IntsAre its.toArray.toList ns := ints_of_vals rv
  refine call_set_tupI ns (I.ok.hd hc) (show s.heap.IsTuple p its.toArray from pt) hi (by unfold scanBound; omega) fun h' tk c R1 hcn k => ?_
  exact ⟨.ref s.heap.objs.size, upd H s.heap.objs.size (SetO X.w s.heap.objs.size (fun j => decide (j ∈ ns)) c), I.laid (t' := tk) k (Nat.le_refl _) (setO_new R1), rfl, q _ c (I.hok.fresh (Nat.le_refl _)) hcn⟩
end Sb
namespace Sb
open PySem PySem.Spec PyProof.Rows L2
/-! ### a tuple times a number: the tuple itself where it is empty or taken once -/
theorem mul_self (l : Addr) (items : Array Value) (n : Nat) (dd : Option Addr) (sl : Array (Option Value)) (x : Int) (u : Tok) (c0 : (decide (x < -(2 ^ 63)) || decide (x ≥ 2 ^ 63)) = false) (c1 : (items.isEmpty || x == 1) = true) :
    Meets (Builtin.«tuple.__mul__» ⟨[.ref l, .int x u], []⟩) (fun _ R s => s.heap.get? l = some { cls := .type "tuple", dict := dd, data := .seq items n, slots := sl } ∧ R (.ok (.ret (Value.ref l))) s) :=
  .of_wp fun prog w A R s h => by
    obtain ⟨hp, g, d, tk, os⟩ := s
    obtain ⟨hl, h⟩ := h
    have f1 := AutoSeq1.idx_int
    wp_walk using wpAny_loadPart' hl
    repeat (first
      | (refine wpAny_ite_false (decide_eq_false (by rw [c0]; exact Bool.false_ne_true)) ?_; wp_walk using wpAny_loadPart' hl)
      | (refine wpAny_ite_true (decide_eq_true c1) ?_; wp_walk using wpAny_loadPart' hl))
    exact ⟨_, rfl, h⟩
def rRepA (K : PySem.W.Frag) : R2 := fun x y H Q => ∃ l k xs, x = .ref l ∧ y = .int k ∧ SqT K H l xs ∧ 1 ≤ k ∧ k ≤ 1000 ∧ xs.length ≤ 1000 ∧ ((xs = [] ∨ k = 1) → Q (.ref l) H) ∧ (xs ≠ [] → k ≠ 1 → ∀ p, H p = none → Q (.ref p) (upd H p (.tup (List.replicate k.toNat xs).flatten)))
theorem op_repA {X : Cx} : OpR X (binaryOp .Mult) (rRepA X.K) := by
  intro pins s σ H x y v u Q I rx ry h
  obtain ⟨l, k, xs, e1, e2, hT, h1, h2, hz, q1, q2⟩ := h
  by_cases hs : xs = [] ∨ k = 1
  · have q := q1 hs
    subst e1 e2
    cases rx
    obtain ⟨t, rfl⟩ := ry
    obtain ⟨its, r, ⟨⟨cls, dd, data, sl⟩, ho, hc, n, hd⟩, hsz⟩ := I.tuple hT
    simp only at hc hd
    subst hc hd
    have c1 : (its.toArray.isEmpty || k == 1) = true := by
      rcases hs with e | e
      · subst e
        cases r
        rfl
      · rw [e, beq_self_eq_true, Bool.or_true]
    have c0 : (decide (k < -(2 ^ 63)) || decide (k ≥ 2 ^ 63)) = false := by
      rw [decide_eq_false (by omega), decide_eq_false (by omega)]
      rfl
    refine wpAny_binaryOp_repeat_ref (T := "tuple") (U := "int") (by decide) ⟨_, ho, rfl⟩ (fun s' => typeIs_int s' k t) noFill_tuple_mul F.fills_int_mul F.slot_int_rmul repeat_tuple F.slot_int_index.lookup
      (call_meets F.slot_int_rmul (typeIs_int s k t) F.entry_int_rmul (F.args_int_rmul_2 _ _) (int_rmul_tuple k t l its.toArray n dd sl) ⟨ho, rfl, ⟨_, ho, rfl⟩, ?_⟩)
    exact call_meets F.slot_tuple_mul ⟨_, ho, rfl⟩ F.entry_tuple_mul (F.args_tuple_mul_2 _ _) (mul_self l its.toArray n dd sl k t c0 c1) ⟨ho, ⟨.ref l, H, I, rfl, q⟩⟩
  · have hn : xs ≠ [] := fun e => hs (.inl e)
    have hk : k ≠ 1 := fun e => hs (.inr e)
    exact op_repT pins s σ H x y v u Q I rx ry ⟨l, k, xs, e1, e2, hT, hn, by omega, h2, hz, q2 hn hk⟩
end Sb
namespace Sb
open PySem PySem.Spec PyProof.Rows L2
/-! ### sorted(a list of data that are alike) -/
section
variable {X : Cx} {pins : List (Addr × Obj)} {σ : L2.St} {H : Hp} {s : Shared}
theorem each_rel : ∀ {xs : List V} {us : List Value} {ds : List PyData}, Vals xs us → xs.length = ds.length → PySem.W.EachIs (fun v (b : V × PyData) => RelV b.1 v) us (xs.zip ds)
  | _, _, [], .nil, _ => .nil
  | _, _, d :: ds, .cons r t, h => .cons r (each_rel t (by simpa using h))
theorem each_reads (I : Inv X pins σ H s) : ∀ {xs : List V} {us : List Value} {ds : List PyData}, Vals xs us → DpAll X.K H xs ds → PySem.W.EachIs (fun v (b : V × PyData) => ∃ as, Reads s.heap v b.2 as) us (xs.zip ds)
  | _, _, [], .nil, _ => .nil
  | _, _, d :: ds, .cons r t, h => by
    cases h with
    | cons h1 h2 => exact .cons (Dp.reads I _ _ _ h1 r) (each_reads I t h2)
theorem vals_each : ∀ {us : List Value} {zs : List (V × PyData)}, PySem.W.EachIs (fun v (b : V × PyData) => RelV b.1 v) us zs → Vals (zs.map Prod.fst) us
  | _, _, .nil => .nil
  | _, _, .cons r t => .cons r (vals_each t)
theorem snd_zip {xs : List V} {ds : List PyData} (h : xs.length = ds.length) : (xs.zip ds).map Prod.snd = ds := List.map_snd_zip (Nat.le_of_eq h.symm)
end
end Sb
/-! sorted of tuples, the empty one among them. -/
namespace Sb
open PySem PySem.Spec PyProof.Rows L2
section
variable {prog : Program} {w : World} {A : Around} {E : Value → Shared → Prop} {s : Shared}
theorem call_tuple_lt {E : Value → Shared → Prop} {Q : Value → Shared → Prop} {l b : Addr} {items items2 : Array Value} {e r : Nat → Bool} (hl : IsTup s.heap l items) (hb : IsTup s.heap b items2)
    (he : ∀ (j : Nat) (h1 : j < items.size) (h2 : j < items2.size), SeqAt.EqAt A.in1 s items[j] items2[j] (e j)) (hr : ∀ (j : Nat) (h1 : j < items.size) (h2 : j < items2.size), e j = false → SeqAt.RcLt A.in1 s items[j] items2[j] (r j))
    (h : Q (.bool (SeqAt.firstLt e r (decide (items.size < items2.size)) (List.range (min items.size items2.size)))) s) : wpAny (model prog w) A (call (.builtin "tuple.__lt__") [.ref l, .ref b]) Q E s := by
  obtain ⟨⟨cls, dd, data, sl⟩, ho, hc, n, hd⟩ := hl
  obtain ⟨⟨cls2, dd2, data2, sl2⟩, ho2, hc2, n2, hd2⟩ := hb
  dsimp only at hc hd hc2 hd2
  subst hc hd hc2 hd2
  exact call_meets F.slot_tuple_lt ⟨_, ho, rfl⟩ F.entry_tuple_lt (F.args_tuple_lt_2 _ _) (SeqAt.tuple_ltAt l b items items2 n n2 dd dd2 sl sl2 e r) ⟨ho, ho2, he, hr, h⟩
theorem oneLt_tup {xs ys : List PyData} {a b : Value} {as bs : List Addr} {Q : Bool → Shared → Prop} (ra : Reads s.heap a (.tuple xs) as) (rb : Reads s.heap b (.tuple ys) bs) (hal : PySem.W.alikeAll xs ys = true)
    (hu : A.units + min (PyData.tuple xs).depth (PyData.tuple ys).depth < cLine) (q : Q (PySem.W.dataLt (.tuple xs) (.tuple ys)) s) : wpAny (model prog w) A (oneLt' true a b) Q E s := by
  cases ra with
  | tuple h1 h2 h3 h4 =>
    rename_i l o vs n
    cases rb with
    | tuple k1 k2 k3 k4 =>
      rename_i l' o' vs' n'
      rw [PyData.depth, PyData.depth] at hu
      have n1 : xs.length = vs.size := by have := SeqAt.ReadsAll.length xs vs.toList as h4; simpa using this.symm
      have n2 : ys.length = vs'.size := by have := SeqAt.ReadsAll.length ys vs'.toList bs k4; simpa using this.symm
      rw [oneLt'_eq]
      simp only [if_true]
      refine wpAny_bind (wpAny_cRoomFor (SeqAt.room_here hu) (wpAny_bind (wpAny_callSpecialIfBound?_slot ⟨o, h1, h2⟩ F.slot_tuple_lt (call_tuple_lt (e := SeqAt.pairEq xs ys) (r := fun j => PySem.W.dataLt (xs.getD j PyData.none) (ys.getD j PyData.none)) ⟨o, h1, h2, n, h3⟩ ⟨o', k1, k2, n', k3⟩ (fun j j1 j2 => ?_) (fun j j1 j2 hj => ?_) ?_))))
      · have := PySem.W.eqAt_alikeAll xs ys A.in1 s vs.toList vs'.toList as bs h4 k4 hal (SeqAt.room_in hu) j (by simpa using j1) (by simpa using j2)
        simpa using this
      · have := PySem.W.rcLt_alikeAll xs ys A.in1 s vs.toList vs'.toList as bs h4 k4 hal (SeqAt.room_in hu) j (by simpa using j1) (by simpa using j2) hj
        simpa using this
      · rw [PySem.W.dataLt_tuple, ← PySem.W.firstLt_toks xs ys hal, n1, n2] at q
        exact wpAny_truthy_bool q
theorem len_each {α β : Type} {R : α → β → Prop} : ∀ {us : List α} {zs : List β}, PySem.W.EachIs R us zs → us.length = zs.length
  | _, _, .nil => rfl
  | _, _, .cons _ h => by rw [List.length_cons, List.length_cons, len_each h]
def isT : PyData → Bool
  | .tuple _ => true
  | _ => false
def isT1 : PyData → Bool
  | .tuple (_ :: _) => true
  | _ => false
theorem first_tup {v : Value} {d : PyData} {as : List Addr} (r : Reads s.heap v d as) (ht : isT d = true) {Q : Option Value → Shared → Prop} (h : ∀ o : Option Value, o.isSome = isT1 d → Q o s) : wpAny (model prog w) A (firstOfTuple' v) Q E s := by
  cases r with
  | tuple h1 h2 h3 h4 =>
    rename_i l o vs n xs
    have n1 := SeqAt.ReadsAll.length xs vs.toList as h4
    rw [PySem.W.kas_first_eq]
    refine wpAny_bind (PySem.W.Looks.here (PySem.W.looks_reads (Reads.tuple h1 h2 h3 h4)) ?_)
    have hn : ¬ ((PySem.W.dataType (.tuple xs) != Value.type "tuple") = true) := by
      simp [PySem.W.dataType]
    rw [if_neg hn]
    refine wpAny_bind (wpAny_listItems h1 h3 (wpAny_pure (h _ ?_)))
    cases xs with
    | nil =>
      have : vs.size = 0 := by simpa using n1
      rw [Array.getElem?_eq_none (by omega)]
      rfl
    | cons x xs =>
      have : vs.size = xs.length + 1 := by simpa using n1
      rw [Array.getElem?_eq_getElem (by omega)]
      rfl
  | _ => cases ht
theorem firsts_tups {vs : List Value} {ds : List PyData} (e : PySem.W.EachIs (fun v d => ∃ as, Reads s.heap v d as) vs ds) : (∀ d ∈ ds, isT d = true) → ∀ {Q : List (Option Value) → Shared → Prop}, (∀ fs : List (Option Value), fs.map (fun o => o.isSome) = ds.map isT1 → Q fs s) → wpAny (model prog w) A (List.mapM firstOfTuple' vs) Q E s := by
  induction e with
  | nil =>
    intro _ Q h
    rw [List.mapM_nil]
    exact wpAny_pure (h [] rfl)
  | cons r e ih =>
    intro ht Q h
    rw [List.mapM_cons]
    obtain ⟨as, r⟩ := r
    refine wpAny_bind (first_tup r (ht _ List.mem_cons_self) fun o ho => wpAny_bind (ih (fun d hd => ht d (List.mem_cons_of_mem _ hd)) fun fs hf => wpAny_pure (h (o :: fs) ?_)))
    rw [List.map_cons, List.map_cons, ho, hf]
def tupKind (ds : List PyData) : SortKind := if (ds.map isT1).head? = some true then general' else oneType'
theorem kind_tups_any {vs : List Value} {ds : List PyData} (e : PySem.W.EachIs (fun v d => ∃ as, Reads s.heap v d as) vs ds) (ht : ∀ d ∈ ds, isT d = true) (hne : (ds.map isT1).all id = false) {Q : SortKind → Shared → Prop} (q : Q (tupKind ds) s) : wpAny (model prog w) A (keyKind' vs.toArray) Q E s := by
  rw [keyKind'_eq, List.mapM_toArray, map_eq_pure_bind]
  refine wpAny_bind (wpAny_bind (firsts_tups e ht fun fs hf => wpAny_pure ?_))
  have hall : (fs.toArray.all fun x => x.isSome) = false := by
    rw [List.all_toArray]
    have : (fs.map fun o => o.isSome).all id = false := by rw [hf]; exact hne
    rw [List.all_map] at this
    exact this
  rw [hall]
  simp only [Bool.false_eq_true, if_false]
  have hfirst : (fs.toArray[0]?.bind id).isSome = ((ds.map isT1).head? == some true) := by
    rw [← hf]
    cases fs with
    | nil => rfl
    | cons o fs => cases o <;> rfl
  rw [hfirst]
  unfold tupKind at q
  by_cases h1 : (ds.map isT1).head? = some true
  · rw [if_pos h1] at q
    rw [if_pos (by rw [h1]; rfl)]
    exact wpAny_pure q
  · rw [if_neg h1] at q
    rw [if_neg (by
      intro z
      exact h1 (by simpa using z))]
    rw [oneTypeOnly'_eq, List.mapM_toArray, map_eq_pure_bind]
    refine wpAny_bind (wpAny_bind (wpAny_bind (PySem.W.kas_mapM (r := Value.type "tuple") vs (fun v hv Q' hq => ?_) (wpAny_pure ?_))))
    · obtain ⟨d, hd, as, r⟩ := PySem.W.EachIs.left e v hv
      have hT : PySem.W.dataType d = Value.type "tuple" := by
        have := ht d hd
        cases d with
        | tuple xs => rfl
        | _ => cases this
      have hL := PySem.W.looks_reads (M := model prog w) r
      rw [hT] at hL
      exact PySem.W.Looks.here hL hq
    · cases vs with
      | nil =>
        have := len_each e
        cases ds with
        | nil => cases hne
        | cons d ds => cases this
      | cons v vs =>
        have hz : ((List.map (fun _ => Value.type "tuple") (v :: vs)).toArray.all fun x => x == Value.type "tuple") = true := by
          rw [List.all_toArray, List.all_map]
          simp
        show wpAny (model prog w) A (pure (if ((List.map (fun _ => Value.type "tuple") (v :: vs)).toArray.all fun x => x == Value.type "tuple") = true then some (Value.type "tuple") else none)) _ E s
        rw [hz]
        exact wpAny_pure (wpAny_pure q)
def Sortable2 (ds : List PyData) : Prop := PySem.W.Sortable ds ∨ ∀ d ∈ ds, isT d = true
theorem sorts2 {vs : List Value} {ds : List PyData} (e : PySem.W.EachIs (fun v d => ∃ as, Reads s.heap v d as) vs ds) (hal : PySem.W.AllAlike ds) (hk : Sortable2 ds) (hu : ∀ d, d ∈ ds → A.units + d.depth < cLine) : PySem.W.SortsAt prog w A s (PySem.W.dataKind s.heap ds) vs := by
  rcases hk with hk | ht
  · exact PySem.W.SortsAt.data e hal hk hu
  cases hne : (ds.map isT1).all id with
  | true =>
    refine PySem.W.SortsAt.data e hal (.inl fun d hd => ?_) hu
    rw [List.all_map, List.all_eq_true] at hne
    have h1 := hne d hd
    cases d with
    | tuple xs =>
      cases xs with
      | nil => cases h1
      | cons x r => exact ⟨x, r, rfl⟩
    | _ => cases h1
  | false =>
    refine ⟨fun v hv => ?_, tupKind ds, fun E x y a b Q ha hb hq => ?_, fun h2 E Q hq => kind_tups_any e ht hne hq⟩
    · obtain ⟨d, hd, as, r⟩ := PySem.W.EachIs.left e v hv
      exact ⟨_, PySem.W.dataKind_some hal hd r⟩
    · obtain ⟨d, as, hd, ra, rfl⟩ := PySem.W.dataKind_inv ha
      obtain ⟨d', as', hd', rb, rfl⟩ := PySem.W.dataKind_inv hb
      have hdd := hal d hd d' hd'
      have hr : A.units + min d.depth d'.depth < cLine := Nat.lt_of_le_of_lt (Nat.add_le_add_left (Nat.min_le_left _ _) _) (hu d hd)
      unfold tupKind
      split
      · have ek : keyLt' general' x y = oneLt' false x y := rfl
        rw [ek]
        exact PySem.W.oneLt_alike (fun z => nomatch z) ra rb hdd (fun z => by subst z; have := ht _ hd; cases this) hr hq
      · rw [keyLt'_oneType]
        have t1 := ht d hd
        have t2 := ht d' hd'
        cases d with
        | tuple xs =>
          cases d' with
          | tuple ys =>
            rw [PySem.W.alike] at hdd
            exact oneLt_tup ra rb hdd hr hq
          | _ => cases t2
        | _ => cases t1
end
end Sb
/-! P0: values of slots as data, the frame's world, what expressions, tests, arguments, statements evaluate to (functions of slots and of the count of draws). -/
namespace Sb
open PySem PySem.Spec PyProof.Rows L2
/-- what a slot holds, or an expression gives: data that stay; a list of one's own; a list of somebody else's; the state of draws -/
inductive Sv where
  | d (x : PyData) | cell (xs : List PyData) | bor (xs : List PyData) | st
  /-- a value that is known; a dict of one's own, of somebody else's, one that stays (t: its keys are tuples, else ints) -/
  | kn (v : V) | tab (t : Bool) (kvs : List (PyData × PyData)) | btab (t : Bool) (kvs : List (PyData × PyData)) | ktab (t : Bool) (kvs : List (PyData × PyData))
/-- the written part, the program, the world -/
structure KW where
  K : PySem.W.Frag
  P : Program
  w : World
instance : Coe KW PySem.W.Frag := ⟨KW.K⟩
abbrev _root_.L2.Cx.kw (X : Cx) : KW := ⟨X.K, X.prog, X.w⟩
/-- what may change by its one holder -/
def Sv.loose : Sv → Bool
  | .cell _ => true
  | .tab _ _ => true
  | _ => false
def Sv.own : Sv → Bool
  | .d _ => true
  | .cell _ => true
  | .kn _ => true
  | .tab _ _ => true
  | .ktab _ _ => true
  | _ => false
abbrev Ev := List (Option Sv)
abbrev FE := Ev → Nat → Option (Sv × Nat)
abbrev FA := Ev → Nat → Option (List Sv × Nat)
abbrev FT := Ev → Nat → Option (Bool × Nat)
abbrev FF := List Sv → Nat → Option (Sv × Nat)
inductive Fl where
  | nx | rt (v : Sv) | bk | ct
abbrev FS := Ev → Nat → Option (Fl × Ev × Nat)
def big : Nat := 100000
theorem big_le {n : Nat} (h : n ≤ big) : n ≤ sizeLine := Nat.le_trans h (by decide)
/-- as data, to look at -/
def Sv.see : Sv → Option PyData
  | .d x => some x
  | .cell xs => some (.list xs)
  | .bor xs => some (.list xs)
  | _ => none
/-- as data, to keep -/
def Sv.take : Sv → Option PyData
  | .d x => some x
  | .cell xs => some (.list xs)
  | _ => none
/-- as an argument -/
def Sv.arg : Sv → Sv
  | .cell xs => .d (.list xs)
  | .tab t kvs => .ktab t kvs
  | x => x
/-! dicts: keys as data, the object -/
mutual
def nk : PyData → Option NestedKey
  | .none => some .none
  | .int i => some (.num i)
  | .str x => some (.text x)
  | .tuple xs => match nks xs with
    | some ks => some (.tup ks)
    | none => none
  | _ => none
def nks : List PyData → Option (List NestedKey)
  | [] => some []
  | x :: xs => match nk x, nks xs with
    | some k, some ks => some (k :: ks)
    | _, _ => none
end
/-- a key of a dict whose keys are tuples (t), ints -/
def nkT (d : PyData) : Option NestedKey := match d with
  | .tuple xs => (match nk (.tuple xs) with
    | some k => if k.depth ≤ 8 then some k else none
    | none => none)
  | _ => none
def keyH (W : KW) (t : Bool) (d : PyData) : Option Int := if t = true then (match nkT d with
    | some k => some (k.hash W.w)
    | none => none) else (match d with
    | .int i => some (hashInt i)
    | _ => none)
/-- a thing whose object is known -/
def rawO (p : Addr) (o : Obj) : HO := .ext fun h => h.get? p = some o
theorem rawO_tup {p : Addr} {o : Obj} : ∀ xs, rawO p o ≠ .tup xs := fun _ z => nomatch z
def EntR (W : KW) (I : Hp) (t : Bool) (kv : PyData × PyData) (e : DictEntry) : Prop := ∃ a b, RelV a e.key ∧ RelV b e.val ∧ Dp W I a kv.1 ∧ Dp W I b kv.2 ∧ keyH W t kv.1 = some e.hash
structure TabR (W : KW) (I : Hp) (p : Addr) (o : Obj) (t : Bool) (kvs : List (PyData × PyData)) : Prop where
  ns : (p == sysModules) = false
  ex : o.ExactDict
  len : kvs.length ≤ big
  nd : (kvs.map (·.1)).Nodup
  en : ∃ es ep, o.data = .dict es ep ∧ Paired (EntR W I t) kvs es.toList
theorem TabR.mono {W : KW} {I I' : Hp} {p o t kvs} (s : Same I I') (h : TabR W I p o t kvs) : TabR W I' p o t kvs := by
  obtain ⟨es, ep, e, q⟩ := h.en
  exact ⟨h.ns, h.ex, h.len, h.nd, es, ep, e, Paired.mapP q fun kv en ⟨a, b, h1, h2, h3, h4, h5⟩ => ⟨a, b, h1, h2, Dp.mono s _ _ h3, Dp.mono s _ _ h4, h5⟩⟩
/-! ### the state that a def changes: how often was drawn (up to big), or a dict whose keys are tuples of small numbers (its code) -/
def keyN (m : Nat) : Nat → List Nat
  | 0 => []
  | f + 1 => if m ≤ 1 then [] else (m % 8) :: keyN (m / 8) f
def decL (m : Nat) : Nat → List (List Nat × Nat)
  | 0 => []
  | f + 1 => if m = 0 then [] else (keyN (m % 2 ^ 40 / 16) 12, m % 16) :: decL (m / 2 ^ 40) f
def decN (n : Nat) : List (List Nat × Nat) := decL (n - (big + 1)) 300
def entT (p : List Nat × Nat) : PyData × PyData := (.tuple (p.1.map fun (i : Nat) => PyData.int (i : Int)), .int (p.2 : Int))
def decT (n : Nat) : List (PyData × PyData) := (decN n).map entT
structure Stt where
  a : Addr
  W : KW
instance : Coe Stt Addr := ⟨Stt.a⟩
def StS (st : Stt) (n : Nat) (I : Hp) (o : HO) : Prop := if n ≤ big then o = .lst (List.replicate n (.int 0)) else ∃ ob, o = rawO st.a ob ∧ TabR st.W I st.a ob true (decT n)
theorem StS.mono {st : Stt} {n : Nat} {I I' : Hp} {o : HO} (s : Same I I') (h : StS st n I o) : StS st n I' o := by
  unfold StS at h ⊢
  split at h
  · rename_i hn
    rw [if_pos hn]
    exact h
  · rename_i hn
    rw [if_neg hn]
    obtain ⟨ob, e, t⟩ := h
    exact ⟨ob, e, t.mono s⟩
theorem StS.lst {st : Stt} {n : Nat} {I : Hp} {o : HO} (hn : n ≤ big) (h : StS st n I o) : o = .lst (List.replicate n (.int 0)) := by
  unfold StS at h
  rw [if_pos hn] at h
  exact h
theorem StS.of {st : Stt} {n : Nat} {I : Hp} (hn : n ≤ big) : StS st n I (.lst (List.replicate n (.int 0))) := by
  unfold StS
  rw [if_pos hn]
theorem StS.tab {st : Stt} {n : Nat} {I : Hp} {o : HO} (hn : big < n) (h : StS st n I o) : ∃ ob, o = rawO st.a ob ∧ TabR st.W I st.a ob true (decT n) := by
  unfold StS at h
  rw [if_neg (by omega)] at h
  exact h
theorem StS.tup {st : Stt} {n : Nat} {I : Hp} {o : HO} (h : StS st n I o) : ∀ xs, o ≠ .tup xs := by
  unfold StS at h
  split at h
  · rw [h]
    exact fun _ z => nomatch z
  · obtain ⟨ob, e, _⟩ := h
    rw [e]
    exact rawO_tup
/-! ### the world of a frame -/
structure Wr (st : Stt) (n : Nat) (I H : Hp) : Prop where
  im : Im I H
  ist : I st = none
  hst : ∃ o, H st = some o ∧ StS st n I o
theorem Wr.up {st : Stt} {n : Nat} {I H I' H' : Hp} (w : Wr st n I H) (s : Same I I') (h : ∀ o, H st.a = some o → H' st.a = some o) : ∃ o, H' st.a = some o ∧ StS st n I' o := by
  obtain ⟨o, h1, h2⟩ := w.hst
  exact ⟨o, h _ h1, h2.mono s⟩
theorem Wr.lst {st : Stt} {n : Nat} {I H : Hp} (w : Wr st n I H) (hn : n ≤ big) : H st.a = some (.lst (List.replicate n (.int 0))) := by
  obtain ⟨o, h1, h2⟩ := w.hst
  rw [h1, h2.lst hn]
structure Xt (st : Stt) (n' : Nat) (I H I' H' : Hp) : Prop where
  w : Wr st n' I' H'
  ii : Same I I'
  hh : ∀ b o, b ≠ st.a → H b = some o → H' b = some o
  old : ∀ b o, H b = some o → I' b = I b
theorem Im.same_upd {I H : Hp} {p : Addr} {o : HO} (m : Im I H) (h : H p = some o) : Same I (upd I p o) := fun b u e => by
  by_cases q : b = p
  · subst q
    rw [upd_same]
    rw [m.sub _ _ e] at h
    exact h.symm
  · rw [upd_ne q]
    exact e
theorem Xt.refl {st n I H} (w : Wr st n I H) : Xt st n I H I H := ⟨w, Same.refl _, fun _ _ _ h => h, fun _ _ _ => rfl⟩
theorem Xt.trans {st n1 n2 I H I1 H1 I2 H2} (a : Xt st n1 I H I1 H1) (b : Xt st n2 I1 H1 I2 H2) : Xt st n2 I H I2 H2 := by
  refine ⟨b.w, a.ii.trans b.ii, fun c o n e => b.hh c o n (a.hh c o n e), fun c o e => ?_⟩
  by_cases h : c = st.a
  · subst h
    rw [b.w.ist, ← a.old _ o e, a.w.ist]
  · exact (b.old c o (a.hh c o h e)).trans (a.old c o e)
/-- an address that is new -/
theorem Xt.free {st n I H I' H' p} (x : Xt st n I H I' H') (hp : H' p = none) (hs : p ≠ st) : H p = none := by
  cases q : H p with
  | none => rfl
  | some o => rw [x.hh p o hs q] at hp; cases hp
theorem Wr.ne_st {st n I H p} (w : Wr st n I H) (hp : H p = none) : p ≠ st := fun e => by
  obtain ⟨o, h1, _⟩ := w.hst
  rw [e, h1] at hp
  cases hp
theorem Wr.ine {st n I H p} (w : Wr st n I H) (hp : H p = none) : I p = none := w.im.sub.free hp
/-- something new that stays -/
theorem Xt.lay {st n I H p o} (w : Wr st n I H) (hp : H p = none) : Xt st n I H (upd I p o) (upd H p o) := by
  have e := Ext.lay (o := o) w.im hp
  have hs := w.ne_st hp
  exact ⟨⟨e.im, by rw [upd_ne hs.symm]; exact w.ist, w.up e.ii fun o h => by rw [upd_ne hs.symm]; exact h⟩, e.ii, fun b o _ h => e.hh b o h, e.old⟩
/-- a new list of one's own -/
theorem Xt.cell {st n I H p xs} (w : Wr st n I H) (hp : H p = none) : Xt st n I H I (upd H p (.lst xs)) := by
  have e := Ext.cell (xs := xs) w.im hp
  have hs := w.ne_st hp
  exact ⟨⟨e.im, w.ist, w.up (Same.refl _) fun o h => by rw [upd_ne hs.symm]; exact h⟩, e.ii, fun b o _ h => e.hh b o h, e.old⟩
/-- a list of one's own is changed; it is new since I H -/
theorem Xt.put {st n I H I' H' p xs} (x : Xt st n I H I' H') (hp : H p = none) (ip : I' p = none) (hs : p ≠ st) : Xt st n I H I' (upd H' p (.lst xs)) :=
  ⟨⟨x.w.im.put ip, x.w.ist, x.w.up (Same.refl _) fun o h => by rw [upd_ne hs.symm]; exact h⟩, x.ii, fun b o hb h => by rw [upd_ne (ne_of_none h hp)]; exact x.hh b o hb h, x.old⟩
/-- a list of one's own is changed no more -/
theorem Xt.freeze {st n I H I' H' p xs} (x : Xt st n I H I' H') (hp : H p = none) (hs : p ≠ st) (h : H' p = some (.lst xs)) : Xt st n I H (upd I' p (.lst xs)) H' := by
  refine ⟨⟨x.w.im.freeze h, by rw [upd_ne hs.symm]; exact x.w.ist, x.w.up (x.w.im.same_upd h) fun _ z => z⟩, fun b o e => ?_, x.hh, fun b o e => ?_⟩
  · by_cases q : b = p
    · subst q
      rw [upd_same]
      rw [x.w.im.sub _ _ (x.ii _ _ e)] at h
      exact h.symm
    · rw [upd_ne q]
      exact x.ii _ _ e
  · rw [upd_ne (ne_of_none e hp)]
    exact x.old _ _ e
theorem Im.freezeO {I H : Hp} {p : Addr} {o : HO} (m : Im I H) (hp : H p = some o) (no : ∀ xs, o ≠ .tup xs) : Im (upd I p o) H := by
  refine ⟨fun b u e => ?_, fun b xs e => ?_⟩
  · by_cases h : b = p
    · subst h
      rw [upd_same] at e
      cases e
      exact hp
    · rw [upd_ne h] at e
      exact m.sub _ _ e
  · rw [upd_ne (ne_of e hp (fun z => no xs z.symm))]
    exact m.tup _ _ e
theorem Xt.freezeO {st n I H I' H' p o} (x : Xt st n I H I' H') (hp : H p = none) (hs : p ≠ st) (h : H' p = some o) (no : ∀ xs, o ≠ .tup xs) : Xt st n I H (upd I' p o) H' := by
  refine ⟨⟨x.w.im.freezeO h no, by rw [upd_ne hs.symm]; exact x.w.ist, x.w.up (x.w.im.same_upd h) fun _ z => z⟩, fun b o e => ?_, x.hh, fun b o e => ?_⟩
  · by_cases q : b = p
    · subst q
      rw [upd_same]
      rw [x.w.im.sub _ _ (x.ii _ _ e)] at h
      exact h.symm
    · rw [upd_ne q]
      exact x.ii _ _ e
  · rw [upd_ne (ne_of_none e hp)]
    exact x.old _ _ e
/-- the state has grown -/
theorem Xt.draw {st n I H} (w : Wr st n I H) (hn : n < big) : Xt st (n + 1) I H I (upd H st.a (.lst (List.replicate n (.int 0) ++ [.int 0]))) :=
  ⟨⟨w.im.put w.ist, w.ist, ⟨_, upd_same, by rw [← List.replicate_succ']; exact StS.of (by omega)⟩⟩, Same.refl _, fun b o hb h => by rw [upd_ne hb]; exact h, fun _ _ _ => rfl⟩
/-! ### values -/
def SvR (K : KW) (st : Stt) (I H : Hp) (v : V) : Sv → Prop
  | .d x => Dp K I v x
  | .cell xs => ∃ p vs, v = .ref p ∧ H p = some (.lst vs) ∧ I p = none ∧ p ≠ st ∧ DpAll K I vs xs
  | .bor xs => ∃ p vs, v = .ref p ∧ H p = some (.lst vs) ∧ I p = none ∧ p ≠ st ∧ DpAll K I vs xs
  | .st => v = .ref st.a ∧ st.W = K
  | .kn u => v = u
  | .tab t kvs => ∃ p o, v = .ref p ∧ H p = some (rawO p o) ∧ I p = none ∧ p ≠ st ∧ TabR K I p o t kvs
  | .btab t kvs => ∃ p o, v = .ref p ∧ H p = some (rawO p o) ∧ I p = none ∧ p ≠ st ∧ TabR K I p o t kvs
  | .ktab t kvs => ∃ p o, v = .ref p ∧ I p = some (rawO p o) ∧ TabR K I p o t kvs
/-- a list of one's own is new -/
def Fr (H : Hp) (v : V) : Sv → Prop
  | .cell _ => ∀ p, v = .ref p → H p = none
  | .tab _ _ => ∀ p, v = .ref p → H p = none
  | _ => True
section
variable {K : KW} {st : Stt} {n n' : Nat} {I H I' H' H0 I0 : Hp} {v : V} {sv : Sv}
theorem SvR.mono (x : Xt st n I H I' H') (h : SvR K st I H v sv) : SvR K st I' H' v sv := by
  cases sv with
  | d d => exact Dp.mono x.ii _ _ h
  | cell xs =>
    obtain ⟨p, vs, e, h1, h2, h3, h4⟩ := h
    exact ⟨p, vs, e, x.hh _ _ h3 h1, by rw [x.old _ _ h1]; exact h2, h3, DpAll.mono x.ii _ _ h4⟩
  | bor xs =>
    obtain ⟨p, vs, e, h1, h2, h3, h4⟩ := h
    exact ⟨p, vs, e, x.hh _ _ h3 h1, by rw [x.old _ _ h1]; exact h2, h3, DpAll.mono x.ii _ _ h4⟩
  | st => exact h
  | kn u => exact h
  | tab t kvs =>
    obtain ⟨p, vs, e, h1, h2, h3, h4⟩ := h
    exact ⟨p, vs, e, x.hh _ _ h3 h1, by rw [x.old _ _ h1]; exact h2, h3, h4.mono x.ii⟩
  | btab t kvs =>
    obtain ⟨p, vs, e, h1, h2, h3, h4⟩ := h
    exact ⟨p, vs, e, x.hh _ _ h3 h1, by rw [x.old _ _ h1]; exact h2, h3, h4.mono x.ii⟩
  | ktab t kvs =>
    obtain ⟨p, o, e, h1, h2⟩ := h
    exact ⟨p, o, e, x.ii _ _ h1, h2.mono x.ii⟩
theorem Fr.back {I'' H'' : Hp} (x : Xt st n I H I' H') (r : SvR K st I'' H'' v sv) (h : Fr H' v sv) : Fr H v sv := by
  cases sv with
  | cell xs =>
    obtain ⟨p, vs, e, h1, h2, h3, h4⟩ := r
    intro q eq
    have e2 : p = q := V.ref.inj (e.symm.trans eq)
    subst e2
    exact x.free (h p e) h3
  | tab t kvs =>
    obtain ⟨p, vs, e, h1, h2, h3, h4⟩ := r
    intro q eq
    have e2 : p = q := V.ref.inj (e.symm.trans eq)
    subst e2
    exact x.free (h p e) h3
  | d _ => trivial
  | bor _ => trivial
  | st => trivial
  | kn _ => trivial
  | btab _ _ => trivial
  | ktab _ _ => trivial
/-- what is looked at: data of the heap as it stands, its items kept ones -/
def See (K : KW) (I H : Hp) (v : V) (d : PyData) : Prop := Dp K I v d ∨ ∃ p vs xs, v = .ref p ∧ d = .list xs ∧ H p = some (.lst vs) ∧ DpAll K I vs xs
theorem SvR.see {d : PyData} (h : SvR K st I H v sv) (e : sv.see = some d) : See K I H v d := by
  cases sv with
  | d x => cases e; exact .inl h
  | cell xs => cases e; obtain ⟨p, vs, e, h1, _, _, h4⟩ := h; exact .inr ⟨p, vs, xs, e, rfl, h1, h4⟩
  | bor xs => cases e; obtain ⟨p, vs, e, h1, _, _, h4⟩ := h; exact .inr ⟨p, vs, xs, e, rfl, h1, h4⟩
  | st => cases e
  | kn _ => cases e
  | tab _ _ => cases e
  | btab _ _ => cases e
  | ktab _ _ => cases e
theorem See.dp {d : PyData} (m : Im I H) (h : See K I H v d) : Dp K H v d := by
  rcases h with h | ⟨p, vs, xs, rfl, rfl, h1, h2⟩
  · exact Dp.mono m.sub _ _ h
  · exact .lst (SqL.of h1) (DpAll.mono m.sub _ _ h2)
theorem See.mono {d : PyData} (x : Xt st n I H I' H') (hst : v ≠ .ref st) (h : See K I H v d) : See K I' H' v d := by
  rcases h with h | ⟨p, vs, xs, rfl, rfl, h1, h2⟩
  · exact .inl (Dp.mono x.ii _ _ h)
  · exact .inr ⟨p, vs, xs, rfl, rfl, x.hh _ _ (fun e => hst (by rw [e])) h1, DpAll.mono x.ii _ _ h2⟩
theorem See.int {i : Int} (h : See K I H v (.int i)) : v = .int i := by
  rcases h with h | ⟨_, _, _, _, e, _⟩
  · cases h; rfl
  · cases e
theorem See.bool {i : Bool} (h : See K I H v (.bool i)) : v = .bl i := by
  rcases h with h | ⟨_, _, _, _, e, _⟩
  · cases h; rfl
  · cases e
theorem See.str {i : Str} (h : See K I H v (.str i)) : v = .str i := by
  rcases h with h | ⟨_, _, _, _, e, _⟩
  · cases h; rfl
  · cases e
theorem See.none (h : See K I H v .none) : v = .non := by
  rcases h with h | ⟨_, _, _, _, e, _⟩
  · cases h; rfl
  · cases e
theorem See.lst {xs : List PyData} (m : Im I H) (h : See K I H v (.list xs)) : ∃ p vs, v = .ref p ∧ SqL K H p vs ∧ DpAll K I vs xs := by
  rcases h with h | ⟨p, vs, ys, e, e2, h1, h2⟩
  · cases h with
    | lst h1 h2 => exact ⟨_, _, rfl, m.sub.seq h1, h2⟩
  · cases e2; exact ⟨p, vs, e, SqL.of h1, h2⟩
theorem See.tup {xs : List PyData} (m : Im I H) (h : See K I H v (.tuple xs)) : ∃ p vs, v = .ref p ∧ SqT K H p vs ∧ SqT K I p vs ∧ DpAll K I vs xs := by
  rcases h with h | ⟨p, vs, ys, e, e2, h1, h2⟩
  · cases h with
    | tup h1 h2 => exact ⟨_, _, rfl, ex_sqT m.sub h1, h1, h2⟩
  · cases e2
/-- kept from now on -/
theorem SvR.keep {d : PyData} (x : Xt st n I H I' H') (h : SvR K st I' H' v sv) (f : Fr H v sv) (e : sv.take = some d) : ∃ I'', Xt st n I H I'' H' ∧ Same I' I'' ∧ Dp K I'' v d := by
  cases sv with
  | d y => cases e; exact ⟨I', x, Same.refl _, h⟩
  | cell xs =>
    cases e
    obtain ⟨p, vs, e, h1, h2, h3, h4⟩ := h
    subst e
    have s2 : Same I' (upd I' p (.lst vs)) := same_new h2
    exact ⟨_, x.freeze (f p rfl) h3 h1, s2, .lst (SqL.of upd_same) (DpAll.mono s2 _ _ h4)⟩
  | bor xs => cases e
  | st => cases e
  | kn _ => cases e
  | tab _ _ => cases e
  | btab _ _ => cases e
  | ktab _ _ => cases e
/-- as an argument -/
theorem SvR.argOf (x : Xt st n I H I' H') (h : SvR K st I' H' v sv) (f : Fr H v sv) : ∃ I'', Xt st n I H I'' H' ∧ SvR K st I'' H' v sv.arg := by
  cases sv with
  | d y => exact ⟨I', x, h⟩
  | cell xs => obtain ⟨I'', x2, _, k⟩ := SvR.keep (d := .list xs) x h f rfl; exact ⟨I'', x2, k⟩
  | bor xs => exact ⟨I', x, h⟩
  | st => exact ⟨I', x, h⟩
  | kn _ => exact ⟨I', x, h⟩
  | btab _ _ => exact ⟨I', x, h⟩
  | ktab _ _ => exact ⟨I', x, h⟩
  | tab t kvs =>
    obtain ⟨p, o, e, h1, h2, h3, h4⟩ := h
    exact ⟨_, x.freezeO (f p e) h3 h1 rawO_tup, p, o, e, upd_same, h4.mono (same_new h2)⟩
end
/-! ### slots -/
def Own (H0 : Hp) (v : V) : Sv → Prop
  | .cell _ => ∀ p, v = .ref p → H0 p = none
  | .tab _ _ => ∀ p, v = .ref p → H0 p = none
  | .bor _ => ∀ p, v = .ref p → (H0 p).isSome
  | .btab _ _ => ∀ p, v = .ref p → (H0 p).isSome
  | _ => True
structure Er (K : KW) (st : Stt) (H0 I H : Hp) (σ : L2.St) (e : Ev) : Prop where
  len : σ.length = e.length
  at_ : ∀ (i : Nat) (sv : Sv), e[i]? = some (some sv) → ∃ v, σ[i]? = some (some v) ∧ SvR K st I H v sv ∧ Own H0 v sv
  ap : ∀ (i j : Nat) (sv sv' : Sv) (p : Addr), i ≠ j → e[i]? = some (some sv) → e[j]? = some (some sv') → sv.loose = true → sv'.loose = true → σ[i]? = some (some (.ref p)) → σ[j]? ≠ some (some (.ref p))
section
variable {K : KW} {st : Stt} {n n' : Nat} {I H I' H' H0 I0 : Hp} {v : V} {sv : Sv} {σ : L2.St} {e : Ev}
theorem Er.mono (E : Er K st H0 I H σ e) (x : Xt st n I H I' H') : Er K st H0 I' H' σ e :=
  ⟨E.len, fun i sv q => by obtain ⟨v, h1, h2, h3⟩ := E.at_ i sv q; exact ⟨v, h1, SvR.mono x h2, h3⟩, E.ap⟩
/-- a slot gets data -/
theorem Er.set (E : Er K st H0 I H σ e) (i : Nat) (h : SvR K st I H v sv) (o : Own H0 v sv)
    (hn : ∀ p j sv', sv.loose = true → v = .ref p → j ≠ i → e[j]? = some (some sv') → sv'.loose = true → σ[j]? ≠ some (some (.ref p))) : Er K st H0 I H (σ.set i (some v)) (e.set i (some sv)) := by
  refine ⟨by rw [List.length_set, List.length_set]; exact E.len, fun j sv2 q => ?_, fun j k xs ys p hjk q1 q2 l1 l2 q3 => ?_⟩
  · by_cases hj : i = j
    · subst hj
      have hl : i < e.length := by
        have := (List.getElem?_eq_some_iff.mp q).1
        simpa using this
      rw [List.getElem?_set_self hl] at q
      cases q
      exact ⟨v, List.getElem?_set_self (by rw [E.len]; exact hl), h, o⟩
    · rw [List.getElem?_set_ne hj] at q
      rw [List.getElem?_set_ne hj]
      exact E.at_ j sv2 q
  · by_cases hj : i = j
    · subst hj
      have hk : i ≠ k := hjk
      have hl : i < e.length := by
        have := (List.getElem?_eq_some_iff.mp q1).1
        simpa using this
      rw [List.getElem?_set_self hl] at q1
      rw [List.getElem?_set_self (by rw [E.len]; exact hl)] at q3
      rw [List.getElem?_set_ne hk] at q2 ⊢
      cases q1
      exact hn p k ys l1 (Option.some.inj (Option.some.inj q3)) hk.symm q2 l2
    · by_cases hk : i = k
      · subst hk
        have hl : i < e.length := by
          have := (List.getElem?_eq_some_iff.mp q2).1
          simpa using this
        rw [List.getElem?_set_self hl] at q2
        rw [List.getElem?_set_self (by rw [E.len]; exact hl)]
        rw [List.getElem?_set_ne hj] at q1 q3
        cases q2
        intro z
        exact hn p j xs l2 (Option.some.inj (Option.some.inj z)) (Ne.symm hj) q1 l1 q3
      · rw [List.getElem?_set_ne hj] at q1 q3
        rw [List.getElem?_set_ne hk] at q2 ⊢
        exact E.ap j k xs ys p hjk q1 q2 l1 l2 q3
theorem Er.setD {d : PyData} (E : Er K st H0 I H σ e) (i : Nat) (h : Dp K I v d) : Er K st H0 I H (σ.set i (some v)) (e.set i (some (.d d))) :=
  E.set i (sv := .d d) h trivial (fun _ _ _ z => nomatch z)
theorem SvR.at {p : Addr} (h : SvR K st I H v sv) (l : sv.loose = true) (e : v = .ref p) : ∃ o, H p = some o := by
  cases sv with
  | cell xs => obtain ⟨q, vs, e2, h1, _⟩ := h; cases e2.symm.trans e; exact ⟨_, h1⟩
  | tab t kvs => obtain ⟨q, vs, e2, h1, _⟩ := h; cases e2.symm.trans e; exact ⟨_, h1⟩
  | d _ => cases l
  | bor _ => cases l
  | st => cases l
  | kn _ => cases l
  | btab _ _ => cases l
  | ktab _ _ => cases l
/-- a new list of one's own -/
theorem Er.setNew {m : Nat} (E : Er K st H0 I H σ e) (x : Xt st n I H I' H') (x0 : Xt st m I0 H0 I H) (i : Nat) (h : SvR K st I' H' v sv) (f : Fr H v sv) (nb : sv.own = true) : Er K st H0 I' H' (σ.set i (some v)) (e.set i (some sv)) := by
  refine (E.mono x).set i h ?_ (fun p j ys l1 e2 hj q1 l2 q2 => ?_)
  · cases sv with
    | cell xs =>
      intro p ep
      obtain ⟨p2, vs, e2, _, _, h3, _⟩ := h
      have : p = p2 := V.ref.inj (ep.symm.trans e2)
      subst this
      exact x0.free (f p ep) h3
    | tab t kvs =>
      intro p ep
      obtain ⟨p2, vs, e2, _, _, h3, _⟩ := h
      have : p = p2 := V.ref.inj (ep.symm.trans e2)
      subst this
      exact x0.free (f p ep) h3
    | bor xs => cases nb
    | btab _ _ => cases nb
    | d _ => trivial
    | st => trivial
    | kn _ => trivial
    | ktab _ _ => trivial
  · obtain ⟨v2, h1, h2, _⟩ := E.at_ j _ q1
    rw [q2] at h1
    cases h1
    obtain ⟨o, ho⟩ := SvR.at h2 l2 rfl
    have g : H p = none := by
      cases sv with
      | cell xs => exact f p e2
      | tab t kvs => exact f p e2
      | d _ => cases l1
      | bor _ => cases l1
      | st => cases l1
      | kn _ => cases l1
      | btab _ _ => cases l1
      | ktab _ _ => cases l1
    rw [g] at ho
    cases ho
/-- forget slots -/
def wipeE (e : Ev) : List Nat → Ev
  | [] => e
  | i :: is => (wipeE e is).set i none
theorem wipeE_len (e : Ev) : ∀ is, (wipeE e is).length = e.length
  | [] => rfl
  | i :: is => by rw [wipeE, List.length_set, wipeE_len e is]
theorem wipeE_some {e : Ev} {j : Nat} {sv : Sv} : ∀ {is : List Nat}, (wipeE e is)[j]? = some (some sv) → e[j]? = some (some sv) ∧ j ∉ is
  | [], h => ⟨h, List.not_mem_nil⟩
  | i :: is, h => by
    rw [wipeE] at h
    by_cases hj : i = j
    · subst hj
      have hl : i < (wipeE e is).length := by
        have := (List.getElem?_eq_some_iff.mp h).1
        simpa using this
      rw [List.getElem?_set_self hl] at h
      cases h
    · rw [List.getElem?_set_ne hj] at h
      obtain ⟨h1, h2⟩ := wipeE_some h
      exact ⟨h1, by simp only [List.mem_cons, not_or]; exact ⟨fun q => hj q.symm, h2⟩⟩
theorem Er.wipeE (E : Er K st H0 I H σ e) (is : List Nat) : Er K st H0 I H σ (wipeE e is) :=
  ⟨by rw [wipeE_len]; exact E.len, fun i sv q => E.at_ i sv (wipeE_some q).1, fun i j xs ys p h q1 q2 => E.ap i j xs ys p h (wipeE_some q1).1 (wipeE_some q2).1⟩
theorem wipe_get {σ : L2.St} {j : Nat} : ∀ {is : List Nat}, j ∉ is → (wipe σ is)[j]? = σ[j]?
  | [], _ => rfl
  | i :: is, h => by
    simp only [List.mem_cons, not_or] at h
    rw [wipe, List.getElem?_set_ne (fun q => h.1 q.symm)]
    exact wipe_get h.2
theorem Er.wipe (E : Er K st H0 I H σ e) (is : List Nat) : Er K st H0 I H (wipe σ is) (Sb.wipeE e is) := by
  refine ⟨by rw [wipe_length, wipeE_len]; exact E.len, fun i sv q => ?_, fun i j xs ys p h q1 q2 l1 l2 q3 => ?_⟩
  · obtain ⟨q1, q2⟩ := wipeE_some q
    rw [wipe_get q2]
    exact E.at_ i sv q1
  · obtain ⟨a1, a2⟩ := wipeE_some q1
    obtain ⟨b1, b2⟩ := wipeE_some q2
    rw [wipe_get a2] at q3
    rw [wipe_get b2]
    exact E.ap i j xs ys p h a1 b1 l1 l2 q3
end
/-! ### arguments -/
inductive ArgsR (K : KW) (st : Stt) (I H : Hp) : List V → List Sv → Prop
  | nil : ArgsR K st I H [] []
  | cons {v vs a as} : SvR K st I H v a → a.loose = false → ArgsR K st I H vs as → ArgsR K st I H (v :: vs) (a :: as)
theorem ArgsR.mono {K : KW} {st n I H I' H'} (x : Xt st n I H I' H') : ∀ {vs as}, ArgsR K st I H vs as → ArgsR K st I' H' vs as
  | _, _, .nil => .nil
  | _, _, .cons h1 h2 h3 => .cons (SvR.mono x h1) h2 (ArgsR.mono x h3)
theorem ArgsR.len {K : KW} {st I H} : ∀ {vs as}, ArgsR K st I H vs as → vs.length = as.length
  | _, _, .nil => rfl
  | _, _, .cons _ _ h => by rw [List.length_cons, List.length_cons, ArgsR.len h]
theorem arg_nocell (sv : Sv) : sv.arg.loose = false := by
  cases sv <;> rfl
/-- all kept data -/
def keepAll : List Sv → Option (List PyData)
  | [] => some []
  | .d x :: r => match keepAll r with
    | some xs => some (x :: xs)
    | none => none
  | _ :: _ => none
theorem ArgsR.keepAll {K : KW} {st I H} : ∀ {vs as ds}, ArgsR K st I H vs as → keepAll as = some ds → DpAll K I vs ds
  | _, _, _, .nil, e => by cases e; exact .nil
  | _, _, ds, .cons (a := a) (as := as) h1 _ h3, e => by
    cases a with
    | d x =>
      unfold Sb.keepAll at e
      cases q : Sb.keepAll as with
      | none => rw [q] at e; cases e
      | some xs => rw [q] at e; cases e; exact .cons h1 (ArgsR.keepAll h3 q)
    | cell _ => cases e
    | bor _ => cases e
    | st => cases e
    | kn _ => cases e
    | tab _ _ => cases e
    | btab _ _ => cases e
    | ktab _ _ => cases e
/-! ### the judgements' readings -/
def tE (K : KW) (f : FE) : TE := fun σ H Q => ∃ st n H0 I e, Wr st n I H ∧ Er K st H0 I H σ e ∧ ∃ sv n', f e n = some (sv, n') ∧ ∀ v I' H', Xt st n' I H I' H' → SvR K st I' H' v sv → Fr H v sv → Q v H'
def tAs (K : KW) (f : FA) : TA := fun σ H Q => ∃ st n H0 I e, Wr st n I H ∧ Er K st H0 I H σ e ∧ ∃ as n', f e n = some (as, n') ∧ ∀ vs I' H', Xt st n' I H I' H' → ArgsR K st I' H' vs as → Q vs H'
def tTs (K : KW) (f : FT) : TT := fun σ H Q => ∃ st n H0 I e, Wr st n I H ∧ Er K st H0 I H σ e ∧ ∃ b n', f e n = some (b, n') ∧ ∀ I' H', Xt st n' I H I' H' → Q b H'
def Fin (K : KW) (st : Stt) (I0 H0 I : Hp) (D : Ends) (fl : Fl) (e' : Ev) (n' : Nat) : Prop :=
  match fl with
  | .nx => ∀ σ' I' H', Xt st n' I0 H0 I' H' → Er K st H0 I' H' σ' e' → Same I I' → D.nx σ' H'
  | .rt sv => ∀ v I' H', Xt st n' I0 H0 I' H' → SvR K st I' H' v sv → Fr H0 v sv → D.rt v H'
  | .bk => ∀ σ' I' H', Xt st n' I0 H0 I' H' → Er K st H0 I' H' σ' e' → Same I I' → D.bk σ' H'
  | .ct => ∀ σ' I' H', Xt st n' I0 H0 I' H' → Er K st H0 I' H' σ' e' → Same I I' → D.ct σ' H'
theorem Fin.up {K : KW} {st I0 H0 I I1 D fl e' n'} (s : Same I I1) (h : Fin K st I0 H0 I D fl e' n') : Fin K st I0 H0 I1 D fl e' n' := by
  cases fl with
  | nx => exact fun σ' I' H' x E s' => h σ' I' H' x E (s.trans s')
  | rt v => exact h
  | bk => exact fun σ' I' H' x E s' => h σ' I' H' x E (s.trans s')
  | ct => exact fun σ' I' H' x E s' => h σ' I' H' x E (s.trans s')
def tSs (K : KW) (f : FS) : TS := fun D σ H => ∃ st n I0 H0 I e, Xt st n I0 H0 I H ∧ Er K st H0 I H σ e ∧ ∃ fl e' n', f e n = some (fl, e', n') ∧ Fin K st I0 H0 I D fl e' n'
/-- a def's promise -/
def spF (K : KW) (np : Nat) (f : FF) : Sp := fun vs H Q _ => vs.length = np ∧ ∃ st n I as, Wr st n I H ∧ ArgsR K st I H vs as ∧ ∃ sv n', f as n = some (sv, n') ∧ ∀ v I' H', Xt st n' I H I' H' → SvR K st I' H' v sv → Fr H v sv → Q v H'
section
variable {X : Cx} {e : Expr} {t u : TE}
theorem _root_.L2.PE.by {t u : TE} (h : PE X e t) (k : ∀ σ H Q, u σ H Q → t σ H Q) : PE X e u := ⟨fun pins s σ H Q I q => h.run pins s σ H Q I (k σ H Q q)⟩
theorem _root_.L2.PT.by {t u : TT} (h : PT X e t) (k : ∀ σ H Q, u σ H Q → t σ H Q) : PT X e u := ⟨fun pins s σ H Q I q => h.run pins s σ H Q I (k σ H Q q)⟩
theorem _root_.L2.PA.by {es : List Expr} {t u : TA} (h : PA X es t) (k : ∀ σ H Q, u σ H Q → t σ H Q) : PA X es u := ⟨fun pos pins s σ H Q I q => h.run pos pins s σ H Q I (k σ H Q q)⟩
theorem _root_.L2.PS.by {st : Stmt} {t u : TS} (h : PS X st t) (k : ∀ D σ H, u D σ H → t D σ H) : PS X st u := ⟨fun pins s σ H D I q => h.run pins s σ H D I (k D σ H q)⟩
theorem _root_.L2.PSs.by {st : List Stmt} {t u : TS} (h : PSs X st t) (k : ∀ D σ H, u D σ H → t D σ H) : PSs X st u := ⟨fun pins s σ H D I q => h.run pins s σ H D I (k D σ H q)⟩
theorem _root_.L2.PI.by {tg it : Expr} {t u : TI} (h : PI X tg it t) (k : ∀ σ H R, u σ H R → t σ H R) : PI X tg it u := ⟨fun pins s σ H R I q => h.run pins s σ H R I (k σ H R q)⟩
theorem _root_.L2.PTs.by {ifs : List Expr} {t u : TT} (h : PTs X ifs t) (k : ∀ σ H Q, u σ H Q → t σ H Q) : PTs X ifs u := ⟨fun pins s σ H Q I q => h.run pins s σ H Q I (k σ H Q q)⟩
end
end Sb
/-! P1: expressions. -/
namespace Sb
open PySem PySem.Spec PyProof.Rows L2
section
variable {X : Cx} {e e2 e3 : Expr} {es : List Expr} {f g : FE} {fa : FA} {ft fu : FT}
/-! ### names, constants -/
def fVar (i : Nat) : FE := fun e n => match e[i]? with
  | some (some (.d x)) => some (.d x, n)
  | some (some (.cell xs)) => some (.bor xs, n)
  | some (some (.bor xs)) => some (.bor xs, n)
  | some (some .st) => some (.st, n)
  | some (some (.kn u)) => some (.kn u, n)
  | some (some (.tab t kvs)) => some (.btab t kvs, n)
  | some (some (.btab t kvs)) => some (.btab t kvs, n)
  | some (some (.ktab t kvs)) => some (.ktab t kvs, n)
  | _ => none
theorem e_var {i : Nat} (h : PE X e (tVar i)) : PE X e (tE X.kw (fVar i)) := h.by fun σ H Q ⟨st, n, H0, I, ev, w, E, sv, n', q, k⟩ => by
  unfold fVar at q
  cases q0 : ev[i]? with
  | none => rw [q0] at q; cases q
  | some o =>
    rw [q0] at q
    cases o with
    | none => cases q
    | some s0 =>
      obtain ⟨v, h1, h2, h3⟩ := E.at_ i s0 q0
      refine ⟨v, h1, ?_⟩
      cases s0 with
      | d x => cases q; exact k v I H (.refl w) h2 trivial
      | cell x => cases q; exact k v I H (.refl w) h2 trivial
      | bor x => cases q; exact k v I H (.refl w) h2 trivial
      | st => cases q; exact k v I H (.refl w) h2 trivial
      | kn _ => cases q; exact k v I H (.refl w) h2 trivial
      | tab _ _ => cases q; exact k v I H (.refl w) h2 trivial
      | btab _ _ => cases q; exact k v I H (.refl w) h2 trivial
      | ktab _ _ => cases q; exact k v I H (.refl w) h2 trivial
def fC (d : PyData) : FE := fun _ n => some (.d d, n)
theorem e_cst {v : V} {d : PyData} (h : PE X e (tC v)) (r : ∀ I, Dp X.K I v d) : PE X e (tE X.kw (fC d)) := h.by fun σ H Q ⟨st, n, H0, I, ev, w, E, sv, n', q, k⟩ => by
  cases q
  exact k v I H (.refl w) (r I) trivial
theorem e_int {i j pos} : PE X (.Constant (.int i) j pos) (tE X.kw (fC (.int i))) := e_cst pe_int fun _ => .int i
theorem e_bl {b j pos} : PE X (.Constant (.bool b) j pos) (tE X.kw (fC (.bool b))) := e_cst pe_bl fun _ => .bl b
theorem e_non {j pos} : PE X (.Constant .none j pos) (tE X.kw (fC .none)) := e_cst pe_non fun _ => .non
theorem e_str {x j pos} : PE X (.Constant (.str x) j pos) (tE X.kw (fC (.str x))) := e_cst pe_str fun _ => .str x
/-! ### two operands -/
def fOp2 (g : Sv → Sv → Option Sv) (f1 f2 : FE) : FE := fun e n => match f1 e n with
  | none => none
  | some (a, n1) => match f2 e n1 with
    | none => none
    | some (b, n2) => match g a b with
      | none => none
      | some c => some (c, n2)
theorem fOp2_eq {g : Sv → Sv → Option Sv} {f1 f2 : FE} {e n sv n'} (h : fOp2 g f1 f2 e n = some (sv, n')) : ∃ a n1 b, f1 e n = some (a, n1) ∧ f2 e n1 = some (b, n') ∧ g a b = some sv := by
  unfold fOp2 at h
  split at h
  · cases h
  · rename_i a n1 e1
    split at h
    · cases h
    · rename_i b n2 e2
      split at h
      · cases h
      · rename_i c e3
        cases h
        exact ⟨a, n1, b, e1, e2, e3⟩
/-- the rule r does what g says -/
def RDo (K : KW) (r : R2) (g : Sv → Sv → Option Sv) : Prop := ∀ st n I H x y a b sv (Q : VK), Wr st n I H → SvR K st I H x a → SvR K st I H y b → g a b = some sv → (∀ v I' H', Xt st n I H I' H' → SvR K st I' H' v sv → Fr H v sv → Q v H') → r x y H Q
theorem t_op2 {K : KW} {r : R2} {g : Sv → Sv → Option Sv} {f1 f2 : FE} (hd : RDo K r g) (σ : L2.St) (H : Hp) (Q : VK) (h : tE K (fOp2 g f1 f2) σ H Q) : tOp r (tE K f1) (tE K f2) σ H Q := by
  obtain ⟨st, n, H0, I, ev, w, E, sv, n', q, k⟩ := h
  obtain ⟨a, n1, b, q1, q2, q3⟩ := fOp2_eq q
  refine ⟨st, n, H0, I, ev, w, E, a, n1, q1, fun x I1 H1 x1 r1 f1 => ⟨st, n1, H0, I1, ev, x1.w, E.mono x1, b, n', q2, fun y I2 H2 x2 r2 f2 => ?_⟩⟩
  exact hd st n' I2 H2 x y a b sv Q x2.w (r1.mono x2) r2 q3 fun v I3 H3 x3 r3 f3 => k v I3 H3 ((x1.trans x2).trans x3) r3 (Fr.back (x1.trans x2) r3 f3)
theorem e_op {op : Operator} {r : R2} {gg : Sv → Sv → Option Sv} {a b : Expr} {f1 f2 : FE} {pos : Pos} (hr : OpR X (binaryOp op) r) (hd : RDo X.kw r gg) (h1 : PE X a (tE X.kw f1)) (h2 : PE X b (tE X.kw f2)) : PE X (.BinOp a op b pos) (tE X.kw (fOp2 gg f1 f2)) :=
  (pe_op hr h1 h2).by fun σ H Q h => t_op2 hd σ H Q h
theorem e_cmp {op : CmpOp} {r : R2} {gg : Sv → Sv → Option Sv} {a b : Expr} {f1 f2 : FE} {pos : Pos} (hr : OpR X (compareOp op) r) (hd : RDo X.kw r gg) (h1 : PE X a (tE X.kw f1)) (h2 : PE X b (tE X.kw f2)) (hm : behindInMarks op b = false) : PE X (.Compare a [op] [b] pos) (tE X.kw (fOp2 gg f1 f2)) :=
  (pe_cmpR hr h1 h2 hm).by fun σ H Q h => t_op2 hd σ H Q h
theorem e_ix {r : R2} {gg : Sv → Sv → Option Sv} {a b : Expr} {f1 f2 : FE} {pos : Pos} (hr : IxR X r) (hd : RDo X.kw r gg) (h1 : PE X a (tE X.kw f1)) (h2 : PE X b (tE X.kw f2)) (hs : PlainIx b) : PE X (.Subscript a b pos) (tE X.kw (fOp2 gg f1 f2)) :=
  (pe_ix hr h1 h2 hs).by fun σ H Q h => t_op2 hd σ H Q h
/-- by what is seen -/
def seeB (g : PyData → PyData → Option PyData) (a b : Sv) : Option Sv := match a.see, b.see with
  | some x, some y => match g x y with
    | some z => some (.d z)
    | none => none
  | _, _ => none
theorem seeB_eq {g : PyData → PyData → Option PyData} {a b sv} (h : seeB g a b = some sv) : ∃ x y z, a.see = some x ∧ b.see = some y ∧ g x y = some z ∧ sv = .d z := by
  unfold seeB at h
  split at h
  · rename_i x y e1 e2
    split at h
    · rename_i z e3
      cases h
      exact ⟨x, y, z, e1, e2, e3, rfl⟩
    · cases h
  · cases h
/-- rules that look at data and give data -/
def RDs (K : KW) (r : R2) (g : PyData → PyData → Option PyData) : Prop := ∀ st n I H x y a b d (Q : VK), Wr st n I H → See K I H x a → See K I H y b → g a b = some d → (∀ v I' H', Xt st n I H I' H' → Dp K I' v d → Q v H') → r x y H Q
theorem RDs.do {K : KW} {r g} (h : RDs K r g) : RDo K r (seeB g) := by
  intro st n I H x y a b sv Q w ha hb e k
  obtain ⟨x', y', z, e1, e2, e3, rfl⟩ := seeB_eq e
  exact h st n I H x y x' y' z Q w (ha.see e1) (hb.see e2) e3 fun v I' H' x kd => k v I' H' x kd trivial
/-! ### + - * // % ** -/
def addD (a b : PyData) : Option PyData := match a, b with
  | .int i, .int j => some (.int (i + j))
  | .str x, .str y => if x.length + y.length ≤ big then some (.str (x ++ y)) else none
  | .tuple xs, .tuple ys => if xs.length + ys.length ≤ big then some (.tuple (xs ++ ys)) else none
  | _, _ => none
def addL (a b : Sv) : Option Sv := match a, b with
  | .bor xs, .cell ys => if xs.length + ys.length ≤ big then some (.cell (xs ++ ys)) else none
  | .cell xs, .cell ys => if xs.length + ys.length ≤ big then some (.cell (xs ++ ys)) else none
  | .cell xs, .bor ys => if xs.length + ys.length ≤ big then some (.cell (xs ++ ys)) else none
  | .bor xs, .bor ys => if xs.length + ys.length ≤ big then some (.cell (xs ++ ys)) else none
  | a, b => seeB addD a b
def rAddI : R2 := rI0 fun i j => .int (i + j)
def rAddS : R2 := fun x y H Q => ∃ i j, x = .str i ∧ y = .str j ∧ i.length + j.length ≤ sizeLine ∧ Q (.str (i ++ j)) H
def rAddA (K : KW) : R2 := fun x y H Q => rAddI x y H Q ∨ (rAddS x y H Q ∨ (rCatA K x y H Q ∨ rCat x y H Q))
theorem op_addA : OpR X (binaryOp .Add) (rAddA X.kw) := OpR.or' op_add (OpR.or' op_add_str (OpR.or' op_catA op_cat))
theorem dp_tupNew {K : KW} {st n I H xs} {ds : List PyData} (w : Wr st n I H) (ha : DpAll K I xs ds) {p : Addr} (hp : H p = none) : Xt st n I H (upd I p (.tup xs)) (upd H p (.tup xs)) ∧ Dp K (upd I p (.tup xs)) (.ref p) (.tuple ds) :=
  ⟨Xt.lay w hp, .tup (.inl (.inl upd_same)) (DpAll.mono (same_new (w.ine hp)) _ _ ha)⟩
theorem rd_addA {K : KW} : RDs K (rAddA K) addD := by
  intro st n I H x y a b d Q w ha hb e k
  unfold addD at e
  split at e
  · cases e
    exact .inl ⟨_, _, ha.int, hb.int, k _ I H (.refl w) (.int _)⟩
  · split at e
    · rename_i i j hl
      cases e
      exact .inr (.inl ⟨_, _, ha.str, hb.str, big_le hl, k _ I H (.refl w) (.str _)⟩)
    · cases e
  · split at e
    · rename_i xs ys hl
      cases e
      obtain ⟨p, vs, e1, t1, i1, d1⟩ := ha.tup w.im
      obtain ⟨q, us, e2, t2, i2, d2⟩ := hb.tup w.im
      refine .inr (.inr (.inl ⟨p, q, vs, us, e1, e2, t1, t2, by rw [DpAll.len d1, DpAll.len d2]; exact big_le hl, fun z => ?_, fun _ z => ?_, fun _ _ p' hp => ?_⟩))
      · subst z
        cases d1
        exact k _ I H (.refl w) (.tup i2 d2)
      · subst z
        cases d2
        rw [List.append_nil] at k
        exact k _ I H (.refl w) (.tup i1 d1)
      · obtain ⟨x1, k1⟩ := dp_tupNew w (DpAll.app d1 d2) hp
        exact k _ _ _ x1 k1
    · cases e
  · cases e
theorem lst_cat {K : KW} {st n I H x y xs ys} {Q : VK} (w : Wr st n I H) (ha : ∃ p vs, x = .ref p ∧ H p = some (.lst vs) ∧ I p = none ∧ p ≠ st ∧ DpAll K I vs xs) (hb : ∃ p vs, y = .ref p ∧ H p = some (.lst vs) ∧ I p = none ∧ p ≠ st ∧ DpAll K I vs ys)
    (hl : xs.length + ys.length ≤ big) (k : ∀ v I' H', Xt st n I H I' H' → SvR K st I' H' v (.cell (xs ++ ys)) → Fr H v (.cell (xs ++ ys)) → Q v H') : rCat x y H Q := by
  obtain ⟨p, vs, e1, h1, _, _, d1⟩ := ha
  obtain ⟨q, us, e2, h2, _, _, d2⟩ := hb
  refine ⟨p, q, vs, us, e1, e2, h1, h2, by rw [DpAll.len d1, DpAll.len d2]; exact big_le hl, fun r hr => ?_⟩
  exact k _ I _ (Xt.cell w hr) ⟨r, _, rfl, upd_same, w.ine hr, w.ne_st hr, DpAll.app d1 d2⟩ fun z ez => by rw [← V.ref.inj ez]; exact hr
theorem rd_add2 {K : KW} : RDo K (rAddA K) addL := by
  intro st n I H x y a b sv Q w ha hb e k
  have go : seeB addD a b = some sv → rAddA K x y H Q := fun e => RDs.do rd_addA st n I H x y a b sv Q w ha hb e k
  unfold addL at e
  split at e
  all_goals first
    | exact go e
    | (split at e
       · cases e
         exact .inr (.inr (.inr (lst_cat w ha hb (by assumption) k)))
       · cases e)
def subD : PyData → PyData → Option PyData
  | .int i, .int j => some (.int (i - j))
  | _, _ => none
theorem rd_subD {K : KW} : RDs K (rI0 fun i j => .int (i - j)) subD := by
  intro st n I H x y a b d Q w ha hb e k
  unfold subD at e
  split at e
  · cases e
    exact ⟨_, _, ha.int, hb.int, k _ I H (.refl w) (.int _)⟩
  · cases e
def mulD : PyData → PyData → Option PyData
  | .int i, .int j => if (-(2 ^ 64) < i ∧ i < 2 ^ 64) ∨ (-(2 ^ 64) < j ∧ j < 2 ^ 64) then some (.int (i * j)) else none
  | .tuple xs, .int k => if 1 ≤ k ∧ k ≤ 1000 ∧ xs.length ≤ 1000 then some (.tuple (List.replicate k.toNat xs).flatten) else none
  | _, _ => none
def rMulA (K : KW) : R2 := fun x y H Q => rI CMul (fun i j => .int (i * j)) x y H Q ∨ rRepA K x y H Q
theorem op_mulA : OpR X (binaryOp .Mult) (rMulA X.kw) := OpR.or' op_mul op_repA
theorem rep_one (xs : List PyData) : (List.replicate 1 xs).flatten = xs := by simp
theorem rep_nil (k : Nat) : (List.replicate k ([] : List PyData)).flatten = [] := by
  induction k with
  | zero => rfl
  | succ j ih => rw [List.replicate_succ, List.flatten_cons, ih]; rfl
theorem rd_mulD {K : KW} : RDs K (rMulA K) mulD := by
  intro st n I H x y a b d Q w ha hb e k
  unfold mulD at e
  split at e
  · split at e
    · rename_i hc
      cases e
      exact .inl ⟨_, _, ha.int, hb.int, hc, k _ I H (.refl w) (.int _)⟩
    · cases e
  · split at e
    · rename_i xs j hc
      cases e
      obtain ⟨p, vs, e1, t1, i1, d1⟩ := ha.tup w.im
      refine .inr ⟨p, j, vs, e1, hb.int, t1, hc.1, hc.2.1, by rw [DpAll.len d1]; exact hc.2.2, fun z => ?_, fun _ _ p' hp => ?_⟩
      · subst e1
        have q : (List.replicate j.toNat xs).flatten = xs := by
          rcases z with z | z
          · subst z
            cases d1
            exact rep_nil _
          · subst z
            exact rep_one xs
        rw [q] at k
        exact k _ I H (.refl w) (.tup i1 d1)
      · obtain ⟨x1, k1⟩ := dp_tupNew w (DpAll.rep d1 j.toNat) hp
        exact k _ _ _ x1 k1
    · cases e
  · cases e
def fdivD : PyData → PyData → Option PyData
  | .int i, .int j => if j ≠ 0 ∧ j.natAbs < 1073741824 then some (.int (i.fdiv j)) else none
  | _, _ => none
theorem rd_fdivD {K : KW} : RDs K (rI CDivN fun i j => .int (i.fdiv j)) fdivD := by
  intro st n I H x y a b d Q w ha hb e k
  unfold fdivD at e
  split at e
  · split at e
    · rename_i hc
      cases e
      exact ⟨_, _, ha.int, hb.int, hc, k _ I H (.refl w) (.int _)⟩
    · cases e
  · cases e
def modD : PyData → PyData → Option PyData
  | .int i, .int j => if j ≠ 0 then some (.int (i.fmod j)) else none
  | _, _ => none
theorem rd_modD {K : KW} : RDs K (rI (fun _ j => j ≠ 0) fun i j => .int (i.fmod j)) modD := by
  intro st n I H x y a b d Q w ha hb e k
  unfold modD at e
  split at e
  · split at e
    · rename_i hc
      cases e
      exact ⟨_, _, ha.int, hb.int, hc, k _ I H (.refl w) (.int _)⟩
    · cases e
  · cases e
def powD : PyData → PyData → Option PyData
  | .int i, .int j => if 0 ≤ j ∧ j ≤ 1000000 ∧ i.natAbs < 2 ^ 64 then some (.int (i ^ j.toNat)) else none
  | _, _ => none
theorem rd_powD {K : KW} : RDs K (rI CPow fun i j => .int (i ^ j.toNat)) powD := by
  intro st n I H x y a b d Q w ha hb e k
  unfold powD at e
  split at e
  · split at e
    · rename_i hc
      cases e
      exact ⟨_, _, ha.int, hb.int, hc, k _ I H (.refl w) (.int _)⟩
    · cases e
  · cases e
/-! ### comparisons -/
def ordB (op : CmpOp) (a b : PyData) : Bool := match op with
  | .Lt => PySem.W.dataLt a b
  | .Gt => PySem.W.dataLt b a
  | .LtE => !PySem.W.dataLt b a
  | _ => !PySem.W.dataLt a b
def nonD : PyData → Bool
  | .none => true
  | _ => false
def ordOk (a b : PyData) : Bool := PySem.W.alike a b && !nonD a && decide (a.depth ≤ 60)
def ordD (op : CmpOp) (a b : PyData) : Option PyData := if ordOk a b = true then some (.bool (ordB op a b)) else none
def rOrd (K : KW) (op : CmpOp) : R2 := fun x y H Q => ∃ d e, Dp K H x d ∧ Dp K H y e ∧ ordOk d e = true ∧ Q (.bl (ordB op d e)) H
theorem op_ord {op : CmpOp} (ho : op = .Lt ∨ op = .Gt ∨ op = .LtE ∨ op = .GtE) (hu : X.A.units + 64 < cLine) : OpR X (compareOp op) (rOrd X.kw op) := by
  intro pins s σ H x y v u Q I rx ry ⟨d, e, hd, he, hc, q⟩
  obtain ⟨as, r1⟩ := Dp.reads I d x v hd rx
  obtain ⟨bs, r2⟩ := Dp.reads I e y u he ry
  unfold ordOk at hc
  rw [Bool.and_eq_true, Bool.and_eq_true, decide_eq_true_eq] at hc
  obtain ⟨⟨c1, c2⟩, c3⟩ := hc
  have c4 : d ≠ .none := fun z => by subst z; cases c2
  have c5 : X.A.units + min d.depth e.depth < cLine := by have : min d.depth e.depth ≤ d.depth := Nat.min_le_left _ _; omega
  rcases ho with rfl | rfl | rfl | rfl
  · exact PySem.W.lt_data r1 r2 c1 c4 c5 ⟨.bl _, H, I, rfl, q⟩
  · exact PySem.W.gt_data r1 r2 c1 c4 c5 ⟨.bl _, H, I, rfl, q⟩
  · exact PySem.W.le_data r1 r2 c1 c4 c5 ⟨.bl _, H, I, rfl, q⟩
  · exact PySem.W.ge_data r1 r2 c1 c4 c5 ⟨.bl _, H, I, rfl, q⟩
theorem rd_ord {K : KW} {op : CmpOp} : RDs K (rOrd K op) (ordD op) := by
  intro st n I H x y a b d Q w ha hb e k
  unfold ordD at e
  split at e
  · cases e
    exact ⟨a, b, ha.dp w.im, hb.dp w.im, by assumption, k _ I H (.refl w) (.bl _)⟩
  · cases e
def eqD (neg : Bool) (a b : PyData) : Option PyData := match a, b with
  | .str x, .str y => some (.bool (decide (x = y) != neg))
  | .int x, .int y => some (.bool (decide (x = y) != neg))
  | .bool x, .bool y => some (.bool (decide (x = y) != neg))
  | a, b => if SeqAt.shaped a = true ∧ SeqAt.shaped b = true then some (.bool (PyData.eqv a b != neg)) else none
def rEqA (K : KW) : R2 := fun x y H Q => rEq x y H Q ∨ rEqD K x y H Q
def rNeA (K : KW) : R2 := fun x y H Q => rNe x y H Q ∨ rNeD K x y H Q
theorem op_eqA (hu : X.A.units + 64 < cLine) : OpR X (compareOp .Eq) (rEqA X.kw) := OpR.or' op_eq (op_eqD hu)
theorem op_neA (hu : X.A.units + 64 < cLine) : OpR X (compareOp .NotEq) (rNeA X.kw) := OpR.or' op_ne (op_neD hu)
theorem dec_str {x y : Str} : decide (V.str x = V.str y) = decide (x = y) := decide_eq_decide.mpr ⟨fun h => V.str.inj h, fun h => by rw [h]⟩
theorem dec_int {x y : Int} : decide (V.int x = V.int y) = decide (x = y) := decide_eq_decide.mpr ⟨fun h => V.int.inj h, fun h => by rw [h]⟩
theorem dec_bl {x y : Bool} : decide (V.bl x = V.bl y) = decide (x = y) := decide_eq_decide.mpr ⟨fun h => V.bl.inj h, fun h => by rw [h]⟩
theorem rd_eqD' {K : KW} : RDs K (rEqA K) (eqD false) := by
  intro st n I H x y a b d Q w ha hb e k
  unfold eqD at e
  split at e
  · cases e
    rw [Bool.bne_false] at k
    exact .inl (by rw [ha.str, hb.str]; exact ⟨rfl, by rw [dec_str]; exact k _ I H (.refl w) (.bl _)⟩)
  · cases e
    rw [Bool.bne_false] at k
    exact .inl (by rw [ha.int, hb.int]; exact ⟨rfl, by rw [dec_int]; exact k _ I H (.refl w) (.bl _)⟩)
  · cases e
    rw [Bool.bne_false] at k
    exact .inl (by rw [ha.bool, hb.bool]; exact ⟨rfl, by rw [dec_bl]; exact k _ I H (.refl w) (.bl _)⟩)
  · split at e
    · rename_i h
      cases e
      rw [Bool.bne_false] at k
      exact .inr ⟨a, b, ha.dp w.im, hb.dp w.im, h.1, h.2, k _ I H (.refl w) (.bl _)⟩
    · cases e
theorem rd_neD' {K : KW} : RDs K (rNeA K) (eqD true) := by
  intro st n I H x y a b d Q w ha hb e k
  unfold eqD at e
  split at e
  · cases e
    rw [Bool.bne_true] at k
    exact .inl (by rw [ha.str, hb.str]; exact ⟨rfl, by rw [dec_str]; exact k _ I H (.refl w) (.bl _)⟩)
  · cases e
    rw [Bool.bne_true] at k
    exact .inl (by rw [ha.int, hb.int]; exact ⟨rfl, by rw [dec_int]; exact k _ I H (.refl w) (.bl _)⟩)
  · cases e
    rw [Bool.bne_true] at k
    exact .inl (by rw [ha.bool, hb.bool]; exact ⟨rfl, by rw [dec_bl]; exact k _ I H (.refl w) (.bl _)⟩)
  · split at e
    · rename_i h
      cases e
      rw [Bool.bne_true] at k
      exact .inr ⟨a, b, ha.dp w.im, hb.dp w.im, h.1, h.2, k _ I H (.refl w) (.bl _)⟩
    · cases e
/-! in -/
/-! is -/
def isNoneD (neg : Bool) (a b : PyData) : Option PyData := match b with
  | .none => some (.bool (nonD a != neg))
  | .bool y => match a with
    | .bool x => some (.bool (decide (x = y) != neg))
    | _ => none
  | _ => none
def rIsAll (neg : Bool) : R2 := fun x y H Q => (y = .non ∧ Q (.bl (decide (x = .non) != neg)) H) ∨ ∃ a b : Bool, x = .bl a ∧ y = .bl b ∧ Q (.bl (decide (a = b) != neg)) H
theorem op_isNotAll : OpR X (compareOp .IsNot) (rIsAll true) := by
  intro pins s σ H x y v u Q I rx ry h
  rcases h with ⟨e, q⟩ | ⟨a, b, e1, e2, q⟩
  · rw [Bool.bne_true] at q
    exact op_notN pins s σ H x y v u Q I rx ry ⟨e, q⟩
  · rw [Bool.bne_true] at q
    exact op_notBl pins s σ H x y v u Q I rx ry ⟨a, b, e1, e2, q⟩
theorem dp_non {K H v d} (h : Dp K H v d) : decide (v = .non) = nonD d := by
  cases h <;> rfl
theorem rd_isAll {K : KW} {neg : Bool} : RDs K (rIsAll neg) (isNoneD neg) := by
  intro st n I H x y a b d Q w ha hb e k
  unfold isNoneD at e
  split at e
  · cases e
    exact .inl ⟨hb.none, by rw [dp_non (ha.dp w.im)]; exact k _ I H (.refl w) (.bl _)⟩
  · split at e
    · cases e
      exact .inr ⟨_, _, ha.bool, hb.bool, k _ I H (.refl w) (.bl _)⟩
    · cases e
  · cases e
/-! ### an item -/
def strAt (z : Str) (i : Int) : Option PyData := if z.length ≤ big then match atI z.cps.toList i with
    | some c => some (.str ⟨#[c]⟩)
    | none => none
  else none
def ixD (a b : PyData) : Option PyData := match a, b with
  | .list xs, .int i => atI xs i
  | .tuple xs, .int i => atI xs i
  | .str z, .int i => strAt z i
  | _, _ => none
theorem at_dp {K H vs ds d} {i : Int} (h : DpAll K H vs ds) (e : atI ds i = some d) : ∃ v, atI vs i = some v ∧ Dp K H v d := by
  unfold atI at e ⊢
  rw [DpAll.len h]
  cases q : ixN ds.length i with
  | none => rw [q] at e; cases e
  | some j =>
    rw [q] at e
    have e3 : ds[j]? = some d := e
    obtain ⟨v', ev', kv'⟩ := DpAll.got h e3
    exact ⟨v', ev', kv'⟩
theorem rd_ixD {K : KW} : RDs K (rIx K) ixD := by
  intro st n I H x y a b d Q w ha hb e k
  unfold ixD at e
  split at e
  · obtain ⟨p, vs, e1, h1, h2⟩ := ha.lst w.im
    obtain ⟨v, e2, kv⟩ := at_dp h2 e
    exact .inl ⟨p, vs, _, v, e1, hb.int, h1, e2, k v I H (.refl w) kv⟩
  · obtain ⟨p, vs, e1, h1, _, h2⟩ := ha.tup w.im
    obtain ⟨v, e2, kv⟩ := at_dp h2 e
    exact .inr (.inl ⟨p, vs, _, v, e1, hb.int, h1, e2, k v I H (.refl w) kv⟩)
  · unfold strAt at e
    split at e
    · rename_i z i hz
      split at e
      · rename_i c hc
        cases e
        exact .inr (.inr ⟨z, i, c, ha.str, hb.int, big_le hz, hc, k _ I H (.refl w) (.str _)⟩)
      · cases e
    · cases e
  · cases e
/-! ### not, -, and, or, if -/
def fNot (f : FE) : FE := fun e n => match f e n with
  | some (.d (.bool b), n1) => some (.d (.bool (!b)), n1)
  | _ => none
theorem e_not {pos} (h : PE X e (tE X.kw f)) : PE X (.UnaryOp .Not e pos) (tE X.kw (fNot f)) := (pe_not h).by fun σ H Q ⟨st, n, H0, I, ev, w, E, sv, n', q, k⟩ => by
  unfold fNot at q
  split at q
  · rename_i b n1 q1
    cases q
    refine ⟨st, n, H0, I, ev, w, E, _, _, q1, fun v I1 H1 x1 r1 _ => ?_⟩
    cases r1
    exact ⟨b, rfl, k _ I1 H1 x1 (.bl _) trivial⟩
  · cases q
def fNeg (f : FE) : FE := fun e n => match f e n with
  | some (.d (.int b), n1) => some (.d (.int (-b)), n1)
  | _ => none
theorem e_neg {pos} (h : PE X e (tE X.kw f)) : PE X (.UnaryOp .USub e pos) (tE X.kw (fNeg f)) := (pe_un un_neg h).by fun σ H Q ⟨st, n, H0, I, ev, w, E, sv, n', q, k⟩ => by
  unfold fNeg at q
  split at q
  · rename_i b n1 q1
    cases q
    refine ⟨st, n, H0, I, ev, w, E, _, _, q1, fun v I1 H1 x1 r1 _ => ?_⟩
    cases r1
    exact ⟨b, rfl, k _ I1 H1 x1 (.int _) trivial⟩
  · cases q
def fAnd (f g : FE) : FE := fun e n => match f e n with
  | some (.d (.bool b), n1) => if b = true then g e n1 else some (.d (.bool false), n1)
  | _ => none
theorem e_and {es' : List Expr} {pos} (h1 : PE X e (tE X.kw f)) (h2 : PE X (.BoolOp .And (e2 :: es') pos) (tE X.kw g)) : PE X (.BoolOp .And (e :: e2 :: es') pos) (tE X.kw (fAnd f g)) := (pe_and h1 h2).by fun σ H Q ⟨st, n, H0, I, ev, w, E, sv, n', q, k⟩ => by
  unfold fAnd at q
  split at q
  · rename_i b n1 q1
    refine ⟨st, n, H0, I, ev, w, E, _, _, q1, fun v I1 H1 x1 r1 _ => ?_⟩
    cases r1
    refine ⟨b, rfl, ?_⟩
    split at q
    · rename_i hb
      rw [if_pos hb]
      exact ⟨st, n1, H0, I1, ev, x1.w, E.mono x1, sv, n', q, fun v2 I2 H2 x2 r2 f2 => k v2 I2 H2 (x1.trans x2) r2 (Fr.back x1 r2 f2)⟩
    · rename_i hb
      rw [if_neg hb]
      cases q
      exact k _ I1 H1 x1 (.bl _) trivial
  · cases q
/-! tests -/
def bT (f : FE) : FT := fun e n => match f e n with
  | some (.d (.bool b), n1) => some (b, n1)
  | _ => none
theorem tb_of {K : KW} {σ H} {Q : Bool → Hp → Prop} (h : tTs K (bT f) σ H Q) : tB (tE K f) σ H Q := by
  obtain ⟨st, n, H0, I, ev, w, E, b, n', q, k⟩ := h
  unfold bT at q
  split at q
  · rename_i b2 n1 q1
    cases q
    refine ⟨st, n, H0, I, ev, w, E, _, _, q1, fun v I1 H1 x1 r1 _ => ?_⟩
    cases r1
    exact ⟨_, rfl, k I1 H1 x1⟩
  · cases q
end
end Sb
/-! P2: tests, arguments, displays, slices, calls. -/
namespace Sb
open PySem PySem.Spec PyProof.Rows L2
section
variable {X : Cx} {e e2 e3 : Expr} {es : List Expr} {f g : FE} {fa : FA} {ft fu : FT}
theorem bT_eq {f : FE} {e n b n'} (h : bT f e n = some (b, n')) : f e n = some (.d (.bool b), n') := by
  unfold bT at h
  split at h
  · rename_i b2 n1 q1
    cases h
    exact q1
  · cases h
theorem t_val (h : PE X e (tE X.kw f)) (he : ∀ whole, isTrue e X.env whole = (do let v ← whole; standAt e.pos; holding [v] (truthy v)) := by intro _; rfl) : PT X e (tTs X.kw (bT f)) := (pt_val h he).by fun σ H Q h => tb_of h
theorem t_cmp {op : CmpOp} {r : R2} {gg : Sv → Sv → Option Sv} {a b : Expr} {f1 f2 : FE} {pos : Pos} (hr : OpR X (compareOp op) r) (hd : RDo X.kw r gg) (h1 : PE X a (tE X.kw f1)) (h2 : PE X b (tE X.kw f2)) (hm : behindInMarks op b = false) : PT X (.Compare a [op] [b] pos) (tTs X.kw (bT (fOp2 gg f1 f2))) :=
  (pt_cmpR hr h1 h2 hm).by fun σ H Q h => by
    obtain ⟨st, n, H0, I, ev, w, E, b, n', q, k⟩ := h
    refine t_op2 hd σ H _ ⟨st, n, H0, I, ev, w, E, _, n', bT_eq q, fun v I' H' x r _ => ?_⟩
    cases r
    exact ⟨b, rfl, k I' H' x⟩
def fChain (g1 g2 : Sv → Sv → Option Sv) (fa fb fc : FE) : FE := fun e n => match fa e n with
  | none => none
  | some (a, n1) => match fb e n1 with
    | none => none
    | some (b, n2) => match g1 a b with
      | some (.d (.bool true)) => (match b with
        | .cell _ => none
        | b => match fc e n2 with
          | none => none
          | some (c, n3) => match g2 b c with
            | none => none
            | some r => some (r, n3))
      | some (.d (.bool false)) => some (.d (.bool false), n2)
      | _ => none
theorem ch_of {K : KW} {r r'} {g1 g2 : Sv → Sv → Option Sv} {f1 f2 f3 : FE} (hd : RDo K r g1) (hd' : RDo K r' g2) {σ H} {Q : VK} (h : tE K (fChain g1 g2 f1 f2 f3) σ H Q) : tChain r r' (tE K f1) (tE K f2) (tE K f3) σ H Q := by
  obtain ⟨st, n, H0, I, ev, w, E, sv, n', q, k⟩ := h
  unfold fChain at q
  split at q
  · cases q
  · rename_i a n1 q1
    split at q
    · cases q
    · rename_i b n2 q2
      refine ⟨st, n, H0, I, ev, w, E, a, n1, q1, fun x I1 H1 x1 r1 f1 => ⟨st, n1, H0, I1, ev, x1.w, E.mono x1, b, n2, q2, fun y I2 H2 x2 r2 f2 => ?_⟩⟩
      split at q
      · rename_i q3
        split at q
        · cases q
        · rename_i b' nc
          split at q
          · cases q
          · rename_i c n3 q4
            split at q
            · cases q
            · rename_i rr q5
              cases q
              refine hd st n2 I2 H2 x y a b _ _ x2.w (r1.mono x2) r2 q3 fun v I3 H3 x3 r3 f3 => ?_
              cases r3
              refine ⟨true, rfl, ?_⟩
              rw [if_pos rfl]
              have E3 := ((E.mono x1).mono x2).mono x3
              refine ⟨st, n2, H0, I3, ev, x3.w, E3, c, n', q4, fun w' I4 H4 x4 r4 f4 => ?_⟩
              refine hd' st n' I4 H4 y w' b c sv Q x4.w ((r2.mono x3).mono x4) r4 q5 fun v5 I5 H5 x5 r5 f5 => ?_
              have xx := ((x1.trans x2).trans x3).trans x4
              exact k v5 I5 H5 (xx.trans x5) r5 (Fr.back xx r5 f5)
      · rename_i q3
        cases q
        refine hd st _ I2 H2 x y a b _ _ x2.w (r1.mono x2) r2 q3 fun v I3 H3 x3 r3 f3 => ?_
        cases r3
        refine ⟨false, rfl, ?_⟩
        rw [if_neg Bool.false_ne_true]
        exact k _ I3 H3 ((x1.trans x2).trans x3) (.bl _) trivial
      · cases q
theorem e_chain {op op' : CmpOp} {r r' : R2} {g1 g2 : Sv → Sv → Option Sv} {a b c : Expr} {f1 f2 f3 : FE} {pos : Pos} (ho : OpR X (compareOp op) r) (hd : RDo X.kw r g1) (ho' : OpR X (compareOp op') r') (hd' : RDo X.kw r' g2) (ha : PE X a (tE X.kw f1)) (hb : PE X b (tE X.kw f2)) (hc : PE X c (tE X.kw f3))
    (hm : lastMarks [op, op'] [b, c] = false := by with_unfolding_all rfl) : PE X (.Compare a [op, op'] [b, c] pos) (tE X.kw (fChain g1 g2 f1 f2 f3)) := (pe_chain ho ho' ha hb hc hm).by fun σ H Q h => ch_of hd hd' h
def tAndF (f g : FT) : FT := fun e n => match f e n with
  | some (true, n1) => g e n1
  | some (false, n1) => some (false, n1)
  | none => none
def tOrF (f g : FT) : FT := fun e n => match f e n with
  | some (true, n1) => some (true, n1)
  | some (false, n1) => g e n1
  | none => none
def tNotF (f : FT) : FT := fun e n => match f e n with
  | some (b, n1) => some (!b, n1)
  | none => none
theorem t_not {pos} (h : PT X e (tTs X.kw ft)) : PT X (.UnaryOp .Not e pos) (tTs X.kw (tNotF ft)) := (pt_not h).by fun σ H Q ⟨st, n, H0, I, ev, w, E, b, n', q, k⟩ => by
  unfold tNotF at q
  split at q
  · rename_i b1 n1 q1
    cases q
    exact ⟨st, n, H0, I, ev, w, E, _, _, q1, k⟩
  · cases q
theorem w_by {t u : TT} (h : PW X e t) (k : ∀ σ H Q, u σ H Q → t σ H Q) : PW X e u := ⟨fun wh pins s σ H Q I q => h.run wh pins s σ H Q I (k σ H Q q)⟩
theorem w_and {rest : List Expr} {pos} (h1 : PT X e (tTs X.kw ft)) (h2 : PW X (.BoolOp .And (e2 :: rest) pos) (tTs X.kw fu)) : PW X (.BoolOp .And (e :: e2 :: rest) pos) (tTs X.kw (tAndF ft fu)) := w_by (pw_and h1 h2) fun σ H Q ⟨st, n, H0, I, ev, w, E, b, n', q, k⟩ => by
  unfold tAndF at q
  split at q
  · rename_i n1 q1
    refine ⟨st, n, H0, I, ev, w, E, _, _, q1, fun I1 H1 x1 => ?_⟩
    dsimp only
    rw [if_pos rfl]
    exact ⟨st, n1, H0, I1, ev, x1.w, E.mono x1, b, n', q, fun I2 H2 x2 => k I2 H2 (x1.trans x2)⟩
  · rename_i n1 q1
    cases q
    refine ⟨st, n, H0, I, ev, w, E, _, _, q1, fun I1 H1 x1 => ?_⟩
    dsimp only
    rw [if_neg Bool.false_ne_true]
    exact k I1 H1 x1
  · cases q
theorem w_or {rest : List Expr} {pos} (h1 : PT X e (tTs X.kw ft)) (h2 : PW X (.BoolOp .Or (e2 :: rest) pos) (tTs X.kw fu)) : PW X (.BoolOp .Or (e :: e2 :: rest) pos) (tTs X.kw (tOrF ft fu)) := w_by (pw_or h1 h2) fun σ H Q ⟨st, n, H0, I, ev, w, E, b, n', q, k⟩ => by
  unfold tOrF at q
  split at q
  · rename_i n1 q1
    cases q
    refine ⟨st, n, H0, I, ev, w, E, _, _, q1, fun I1 H1 x1 => ?_⟩
    dsimp only
    rw [if_pos rfl]
    exact k I1 H1 x1
  · rename_i n1 q1
    refine ⟨st, n, H0, I, ev, w, E, _, _, q1, fun I1 H1 x1 => ?_⟩
    dsimp only
    rw [if_neg Bool.false_ne_true]
    exact ⟨st, n1, H0, I1, ev, x1.w, E.mono x1, b, n', q, fun I2 H2 x2 => k I2 H2 (x1.trans x2)⟩
  · cases q
def fIf (t : FT) (f g : FE) : FE := fun e n => match t e n with
  | some (true, n1) => f e n1
  | some (false, n1) => g e n1
  | none => none
theorem e_if {c : Expr} {pos} (hc : PT X c (tTs X.kw ft)) (h1 : PE X e (tE X.kw f)) (h2 : PE X e2 (tE X.kw g)) : PE X (.IfExp c e e2 pos) (tE X.kw (fIf ft f g)) := (pe_ifExp hc h1 h2).by fun σ H Q ⟨st, n, H0, I, ev, w, E, sv, n', q, k⟩ => by
  unfold fIf at q
  split at q
  · rename_i n1 q1
    refine ⟨st, n, H0, I, ev, w, E, _, _, q1, fun I1 H1 x1 => ?_⟩
    dsimp only
    rw [if_pos rfl]
    exact ⟨st, n1, H0, I1, ev, x1.w, E.mono x1, sv, n', q, fun v2 I2 H2 x2 r2 f2 => k v2 I2 H2 (x1.trans x2) r2 (Fr.back x1 r2 f2)⟩
  · rename_i n1 q1
    refine ⟨st, n, H0, I, ev, w, E, _, _, q1, fun I1 H1 x1 => ?_⟩
    dsimp only
    rw [if_neg Bool.false_ne_true]
    exact ⟨st, n1, H0, I1, ev, x1.w, E.mono x1, sv, n', q, fun v2 I2 H2 x2 r2 f2 => k v2 I2 H2 (x1.trans x2) r2 (Fr.back x1 r2 f2)⟩
  · cases q
/-! ### arguments -/
def faNil : FA := fun _ n => some ([], n)
def faCons (f : FE) (g : FA) : FA := fun e n => match f e n with
  | none => none
  | some (a, n1) => match g e n1 with
    | none => none
    | some (as, n2) => some (a.arg :: as, n2)
theorem a_nil : PA X [] (tAs X.kw faNil) := pa_nil.by fun σ H Q ⟨st, n, H0, I, ev, w, E, as, n', q, k⟩ => by
  cases q
  exact k [] I H (.refl w) .nil
theorem a_cons (h1 : PE X e (tE X.kw f)) (h2 : PA X es (tAs X.kw fa)) (hs : starEach (e :: es) X.env = (false, eval e X.env) :: starEach es X.env := by rfl) : PA X (e :: es) (tAs X.kw (faCons f fa)) := (pa_cons h1 h2 hs).by fun σ H Q ⟨st, n, H0, I, ev, w, E, as, n', q, k⟩ => by
  unfold faCons at q
  split at q
  · cases q
  · rename_i a n1 q1
    split at q
    · cases q
    · rename_i as' n2 q2
      cases q
      refine ⟨st, n, H0, I, ev, w, E, a, n1, q1, fun x I1 H1 x1 r1 f1 => ?_⟩
      obtain ⟨I2, x2, r2⟩ := SvR.argOf x1 r1 f1
      exact ⟨st, n1, H0, I2, ev, x2.w, E.mono x2, as', _, q2, fun vs I3 H3 x3 r3 => k _ I3 H3 (x2.trans x3) (.cons (r2.mono x3) (arg_nocell a) r3)⟩
/-! displays -/
def fTup (fa : FA) : FE := fun e n => match fa e n with
  | none => none
  | some (as, n1) => match keepAll as with
    | some xs => if xs.length ≤ big then some (.d (.tuple xs), n1) else none
    | none => none
def fLst (fa : FA) : FE := fun e n => match fa e n with
  | none => none
  | some (as, n1) => match keepAll as with
    | some xs => if xs.length ≤ big then some (.cell xs, n1) else none
    | none => none
theorem sv_cellNew {K : KW} {st n I H xs} {ds : List PyData} (w : Wr st n I H) (ha : DpAll K I xs ds) {p : Addr} (hp : H p = none) : Xt st n I H I (upd H p (.lst xs)) ∧ SvR K st I (upd H p (.lst xs)) (.ref p) (.cell ds) ∧ Fr H (.ref p) (.cell ds) :=
  ⟨Xt.cell w hp, ⟨p, xs, rfl, upd_same, w.ine hp, w.ne_st hp, ha⟩, fun z ez => by rw [← V.ref.inj ez]; exact hp⟩
theorem e_tup {x1 pos} (h : PA X es (tAs X.kw fa)) : PE X (.Tuple es x1 pos) (tE X.kw (fTup fa)) := (pe_tup h).by fun σ H Q ⟨st, n, H0, I, ev, w, E, sv, n', q, k⟩ => by
  unfold fTup at q
  split at q
  · cases q
  · rename_i as n1 q1
    split at q
    · rename_i xs q2
      split at q
      · rename_i hl
        cases q
        refine ⟨st, n, H0, I, ev, w, E, as, _, q1, fun vs I1 H1 x1 r1 => ?_⟩
        have hd := r1.keepAll q2
        refine ⟨by rw [DpAll.len hd]; exact big_le hl, fun p hp => ?_⟩
        obtain ⟨x2, k2⟩ := dp_tupNew x1.w hd hp
        exact k _ _ _ (x1.trans x2) k2 trivial
      · cases q
    · cases q
theorem e_lst {pos} (h : PA X es (tAs X.kw fa)) : PE X (.List es pos) (tE X.kw (fLst fa)) := (pe_lst h).by fun σ H Q ⟨st, n, H0, I, ev, w, E, sv, n', q, k⟩ => by
  unfold fLst at q
  split at q
  · cases q
  · rename_i as n1 q1
    split at q
    · rename_i xs q2
      split at q
      · rename_i hl
        cases q
        refine ⟨st, n, H0, I, ev, w, E, as, _, q1, fun vs I1 H1 x1 r1 => ?_⟩
        have hd := r1.keepAll q2
        refine ⟨by rw [DpAll.len hd]; exact big_le hl, fun p hp => ?_⟩
        obtain ⟨x2, k2, k3⟩ := sv_cellNew x1.w hd hp
        exact k _ _ _ (x1.trans x2) k2 (Fr.back x1 k2 k3)
      · cases q
    · cases q
/-! ### a part -/
def FO := Ev → Nat → Option (Option Int × Nat)
def tOs (K : KW) (f : FO) : TO := fun σ H Q => ∃ st n H0 I e, Wr st n I H ∧ Er K st H0 I H σ e ∧ ∃ o n', f e n = some (o, n') ∧ ∀ I' H', Xt st n' I H I' H' → Q o H'
def oNone : FO := fun _ n => some (none, n)
def oSome (f : FE) : FO := fun e n => match f e n with
  | some (.d (.int i), n1) => some (some i, n1)
  | _ => none
theorem _root_.L2.PO.by {o : Option Expr} {t u : TO} (h : PO X o t) (k : ∀ σ H Q, u σ H Q → t σ H Q) : PO X o u := ⟨fun pins s σ H Q I q => h.run pins s σ H Q I (k σ H Q q)⟩
theorem o_none : PO X none (tOs X.kw oNone) := po_none.by fun σ H Q ⟨st, n, H0, I, ev, w, E, o, n', q, k⟩ => by
  cases q
  exact k I H (.refl w)
theorem o_some (h : PE X e (tE X.kw f)) : PO X (some e) (tOs X.kw (oSome f)) := (po_some h).by fun σ H Q ⟨st, n, H0, I, ev, w, E, o, n', q, k⟩ => by
  unfold oSome at q
  split at q
  · rename_i i n1 q1
    cases q
    refine ⟨st, n, H0, I, ev, w, E, _, _, q1, fun v I1 H1 x1 r1 _ => ?_⟩
    cases r1
    exact ⟨i, rfl, k I1 H1 x1⟩
  · cases q
def slD (a : PyData) (lo hi : Option Int) : Option Sv := match a with
  | .tuple xs => some (.d (.tuple (cutD xs lo hi)))
  | .list xs => some (.cell (cutD xs lo hi))
  | .str z => if z.length ≤ big then some (.d (.str (Txt.slice z lo hi))) else none
  | _ => none
def fSl (f : FE) (a b : FO) : FE := fun e n => match f e n with
  | none => none
  | some (s, n1) => match s with
    | .cell _ => none
    | s => match s.see with
      | none => none
      | some x => match a e n1 with
        | none => none
        | some (lo, n2) => match b e n2 with
          | none => none
          | some (hi, n3) => match slD x lo hi with
            | none => none
            | some r => some (r, n3)
def rSlAll (K : KW) : V → Option Int → Option Int → Hp → VK → Prop := fun x lo hi H Q => rSlA K x lo hi H Q ∨ (rSlL K x lo hi H Q ∨ C8.rSlX x lo hi H Q)
theorem sl_all : SlR X (rSlAll X.kw) := SlR.or sl_tupA (SlR.or sl_list C8.sl_txt)
theorem e_sl {lo hi : Option Expr} {a b : FO} {p2 pos : Pos} (h : PE X e (tE X.kw f)) (h1 : PO X lo (tOs X.kw a)) (h2 : PO X hi (tOs X.kw b)) : PE X (.Subscript e (.Slice lo hi none p2) pos) (tE X.kw (fSl f a b)) := (pe_slice sl_all h h1 h2).by fun σ H Q ⟨st, n, H0, I, ev, w, E, sv, n', q, k⟩ => by
  unfold fSl at q
  split at q
  · cases q
  · rename_i s n1 q1
    split at q
    · cases q
    · rename_i s' nc
      split at q
      · cases q
      · rename_i x q2
        split at q
        · cases q
        · rename_i lo' n2 q3
          split at q
          · cases q
          · rename_i hi' n3 q4
            split at q
            · cases q
            · rename_i r q5
              cases q
              refine ⟨st, n, H0, I, ev, w, E, _, _, q1, fun v I1 H1 x1 r1 _ => ⟨st, n1, H0, I1, ev, x1.w, E.mono x1, lo', n2, q3, fun I2 H2 x2 => ⟨st, n2, H0, I2, ev, x2.w, (E.mono x1).mono x2, hi', _, q4, fun I3 H3 x3 => ?_⟩⟩⟩
              have r3 := ((r1.mono x2).mono x3).see q2
              have xx := (x1.trans x2).trans x3
              unfold slD at q5
              split at q5
              · cases q5
                obtain ⟨p, vs, e1, t1, i1, d1⟩ := r3.tup x3.w.im
                refine .inl ⟨p, vs, e1, t1, fun hw => ?_, fun _ p' hp => ?_⟩
                · rename_i ds
                  have ec : cutD ds lo' hi' = ds := by
                    unfold cutD
                    rw [← DpAll.len d1, hw.1, hw.2, List.drop_zero, DpAll.len d1]
                    exact List.take_of_length_le (by omega)
                  rw [ec] at k
                  exact k _ I3 H3 xx (.tup i1 d1) trivial
                · obtain ⟨x4, k4⟩ := dp_tupNew x3.w (DpAll.cut d1 lo' hi') hp
                  exact k _ _ _ (xx.trans x4) k4 trivial
              · cases q5
                obtain ⟨p, vs, e1, t1, d1⟩ := r3.lst x3.w.im
                refine .inr (.inl ⟨p, vs, e1, t1, fun p' hp => ?_⟩)
                obtain ⟨x4, k4, k5⟩ := sv_cellNew x3.w (DpAll.cut d1 lo' hi') hp
                exact k _ _ _ (xx.trans x4) k4 (Fr.back xx k4 k5)
              · split at q5
                · rename_i z hz
                  cases q5
                  exact .inr (.inr ⟨z, r3.str, big_le hz, k _ I3 H3 xx (.str _) trivial⟩)
                · cases q5
              · cases q5
/-! ### calls -/
def fCall (np : Nat) (F : FF) (fa : FA) : FE := fun e n => match fa e n with
  | none => none
  | some (as, n1) => if as.length = np then F as n1 else none
theorem e_call {k : Nat} {fn : Addr} {fd : FuncData} {ps : List Str} {x : Str} {p pos : Pos} {np : Nat} {F : FF} (G : FnOk X.prog X.w X.K X.mg X.base CX0 k fn fd ps (spF X.kw np F)) (hr : Room k X.A) (hg : Gl X x) (hm : X.mg x = some (.ref fn)) (hk : PySem.W.keepIn X.K (.ref fn) = true) (hb : Binds X.K fd ps [])
    (ha : PA X (e :: es) (tAs X.kw fa)) (hdb : (x == ("__debug__" : Str)) = false := by decide) (he : starEach (e :: es) X.env = (false, eval e X.env) :: starEach es X.env := by rfl) (hpl : (backTo pos (starEach es X.env)).any (·.1) = false := by rfl) :
    PE X (.Call (.Name x p) (e :: es) [] pos) (tE X.kw (fCall np F fa)) := (pe_call G hr hg hm hk hb .nil pass0 ha hdb he hpl).by fun σ H Q ⟨st, n, H0, I, ev, w, E, sv, n', q, k⟩ => by
  unfold fCall at q
  split at q
  · cases q
  · rename_i as n1 q1
    split at q
    · rename_i hl
      refine ⟨st, n, H0, I, ev, w, E, as, n1, q1, fun vs I1 H1 x1 r1 => ?_⟩
      dsimp only
      rw [List.append_nil]
      exact ⟨by rw [r1.len]; exact hl, st, n1, I1, as, x1.w, r1, sv, n', q, fun v I2 H2 x2 r2 f2 => k v I2 H2 (x1.trans x2) r2 (Fr.back x1 r2 f2)⟩
    · cases q
/-- a rule for a built-in by what it is given -/
def CDo (K : KW) (r : List V → Hp → VK → Prop) (g : List Sv → Option Sv) : Prop := ∀ st n I H vs as sv (Q : VK), Wr st n I H → ArgsR K st I H vs as → g as = some sv → (∀ v I' H', Xt st n I H I' H' → SvR K st I' H' v sv → Fr H v sv → Q v H') → r vs H Q
def fBi (g : List Sv → Option Sv) (fa : FA) : FE := fun e n => match fa e n with
  | none => none
  | some (as, n1) => match g as with
    | none => none
    | some r => some (r, n1)
theorem t_cb {K : KW} {r g σ H} {Q : VK} (hd : CDo K r g) (h : tE K (fBi g fa) σ H Q) : tCB r (tAs K fa) σ H Q := by
  obtain ⟨st, n, H0, I, ev, w, E, sv, n', q, k⟩ := h
  unfold fBi at q
  split at q
  · cases q
  · rename_i as n1 q1
    split at q
    · cases q
    · rename_i rr q2
      cases q
      exact ⟨st, n, H0, I, ev, w, E, as, _, q1, fun vs I1 H1 x1 r1 => hd st _ I1 H1 vs as sv Q x1.w r1 q2 fun v I2 H2 x2 r2 f2 => k v I2 H2 (x1.trans x2) r2 (Fr.back x1 r2 f2)⟩
theorem e_bi {id : String} {r : List V → Hp → VK → Prop} {gg : List Sv → Option Sv} {x : Str} {p pos : Pos} (hc : CallR X (.builtin id) r) (hd : CDo X.kw r gg) (hg : Gl X x) (hm : X.mg x = none) (hv : bootBuiltins x = some (.builtin id)) (ha : PA X (e :: es) (tAs X.kw fa)) (hn : x ≠ "__name__" := by decide) (hdb : (x == ("__debug__" : Str)) = false := by decide)
    (he : starEach (e :: es) X.env = (false, eval e X.env) :: starEach es X.env := by rfl) (hpl : (backTo pos (starEach es X.env)).any (·.1) = false := by rfl) : PE X (.Call (.Name x p) (e :: es) [] pos) (tE X.kw (fBi gg fa)) :=
  (pe_callB hc hg hm hv ha hn hdb he hpl).by fun σ H Q h => t_cb hd h
theorem e_ty {T : String} {r : List V → Hp → VK → Prop} {gg : List Sv → Option Sv} {x : Str} {p pos : Pos} (hc : CallR X (.type T) r) (hd : CDo X.kw r gg) (hg : Gl X x) (hm : X.mg x = none) (hv : bootBuiltins x = some (.type T)) (ha : PA X (e :: es) (tAs X.kw fa)) (hn : x ≠ "__name__" := by decide) (hdb : (x == ("__debug__" : Str)) = false := by decide)
    (he : starEach (e :: es) X.env = (false, eval e X.env) :: starEach es X.env := by rfl) (hpl : (backTo pos (starEach es X.env)).any (·.1) = false := by rfl) : PE X (.Call (.Name x p) (e :: es) [] pos) (tE X.kw (fBi gg fa)) :=
  (pe_callTy hc hg hm hv ha hn hdb he hpl).by fun σ H Q h => t_cb hd h
end
/-- one argument, as it is seen -/
def see1 (g : PyData → Option Sv) : List Sv → Option Sv
  | [a] => match a.see with
    | some x => g x
    | none => none
  | _ => none
theorem see1_of {K : KW} {r} {g : PyData → Option Sv} (h : ∀ st n I H v x sv (Q : VK), Wr st n I H → See K I H v x → g x = some sv → (∀ v I' H', Xt st n I H I' H' → SvR K st I' H' v sv → Fr H v sv → Q v H') → r [v] H Q) : CDo K r (see1 g) := by
  intro st n I H vs as sv Q w ra e k
  cases ra with
  | nil => cases e
  | cons h1 h2 h3 =>
    rename_i v vs' a as'
    cases h3 with
    | nil =>
      unfold see1 at e
      cases q : a.see with
      | none => simp only [q] at e; cases e
      | some x =>
        simp only [q] at e
        exact h st n I H v x sv Q w (h1.see q) e k
    | cons _ _ _ => cases e
/-! len -/
def lenG (x : PyData) : Option Sv := match x with
  | .list xs => some (.d (.int xs.length))
  | .tuple xs => some (.d (.int xs.length))
  | .str z => if z.length ≤ big then some (.d (.int z.length)) else none
  | _ => none
def rLenA (K : KW) : List V → Hp → VK → Prop := fun xs H Q => (∃ p ys, xs = [.ref p] ∧ (SqL K H p ys ∨ SqT K H p ys) ∧ Q (.int ys.length) H) ∨ ∃ z, xs = [.str z] ∧ z.length ≤ sizeLine ∧ Q (.int z.length) H
section
variable {X : Cx} {K : KW}
theorem call_lenA : CallR X (.builtin "len") (rLenA X.kw) := fun pins s σ H xs us Q I r h => by
  rcases h with h | h
  · exact call_len_seq pins s σ H xs us Q I r h
  · exact call_len_str pins s σ H xs us Q I r h
theorem cd_lenA : CDo K (rLenA K) (see1 lenG) := see1_of fun st n I H v x sv Q w hs e k => by
  unfold lenG at e
  split at e
  · cases e
    obtain ⟨p, vs, e1, h1, h2⟩ := hs.lst w.im
    exact .inl ⟨p, vs, by rw [e1], .inl h1, by rw [DpAll.len h2]; exact k _ I H (.refl w) (.int _) trivial⟩
  · cases e
    obtain ⟨p, vs, e1, h1, _, h2⟩ := hs.tup w.im
    exact .inl ⟨p, vs, by rw [e1], .inr h1, by rw [DpAll.len h2]; exact k _ I H (.refl w) (.int _) trivial⟩
  · split at e
    · rename_i z hz
      cases e
      exact .inr ⟨z, by rw [hs.str], big_le hz, k _ I H (.refl w) (.int _) trivial⟩
    · cases e
  · cases e
/-! tuple, list -/
def tupG (x : PyData) : Option Sv := match x with
  | .list xs => some (.d (.tuple xs))
  | .tuple xs => some (.d (.tuple xs))
  | _ => none
def lstG (x : PyData) : Option Sv := match x with
  | .list xs => some (.cell xs)
  | .tuple xs => some (.cell xs)
  | _ => none
theorem cd_tup : CDo K (fun xs H Q => ∃ p ys, xs = [.ref p] ∧ ((SqL K H p ys ∧ ∀ l, H l = none → Q (.ref l) (upd H l (.tup ys))) ∨ (SqT K H p ys ∧ Q (.ref p) H))) (see1 tupG) := see1_of fun st n I H v x sv Q w hs e k => by
  unfold tupG at e
  split at e
  · cases e
    obtain ⟨p, vs, e1, h1, h2⟩ := hs.lst w.im
    refine ⟨p, vs, by rw [e1], .inl ⟨h1, fun l hl => ?_⟩⟩
    obtain ⟨x4, k4⟩ := dp_tupNew w h2 hl
    exact k _ _ _ x4 k4 trivial
  · cases e
    obtain ⟨p, vs, e1, h1, i1, h2⟩ := hs.tup w.im
    exact ⟨p, vs, by rw [e1], .inr ⟨h1, k _ I H (.refl w) (.tup i1 h2) trivial⟩⟩
  · cases e
theorem cd_lst : CDo K (fun xs H Q => ∃ p ys, xs = [.ref p] ∧ (SqL K H p ys ∨ SqT K H p ys) ∧ ∀ l, H l = none → Q (.ref l) (upd H l (.lst ys))) (see1 lstG) := see1_of fun st n I H v x sv Q w hs e k => by
  unfold lstG at e
  split at e
  · cases e
    obtain ⟨p, vs, e1, h1, h2⟩ := hs.lst w.im
    refine ⟨p, vs, by rw [e1], .inl h1, fun l hl => ?_⟩
    obtain ⟨x4, k4, k5⟩ := sv_cellNew w h2 hl
    exact k _ _ _ x4 k4 k5
  · cases e
    obtain ⟨p, vs, e1, h1, i1, h2⟩ := hs.tup w.im
    refine ⟨p, vs, by rw [e1], .inr h1, fun l hl => ?_⟩
    obtain ⟨x4, k4, k5⟩ := sv_cellNew w h2 hl
    exact k _ _ _ x4 k4 k5
  · cases e
/-! any, all -/
def bools : List PyData → Option (List Bool)
  | [] => some []
  | .bool b :: r => match bools r with
    | some bs => some (b :: bs)
    | none => none
  | _ :: _ => none
theorem bools_of : ∀ {xs : List PyData} {bs : List Bool}, bools xs = some bs → xs = bs.map PyData.bool
  | [], bs, h => by cases h; rfl
  | x :: r, bs, h => by
    cases x with
    | bool b =>
      unfold bools at h
      cases q : bools r with
      | none => simp only [q] at h; cases h
      | some cs => simp only [q] at h; cases h; rw [List.map_cons, bools_of q]
    | _ => cases h
def allG (x : PyData) : Option Sv := match x with
  | .list xs => match bools xs with
    | some bs => some (.d (.bool (bs.all id)))
    | none => none
  | _ => none
theorem cd_allA : CDo K (rAll K) (see1 allG) := see1_of fun st n I H v x sv Q w hs e k => by
  unfold allG at e
  split at e
  · split at e
    · rename_i xs bs q
      cases e
      obtain ⟨p, vs, e1, h1, h2⟩ := hs.lst w.im
      rw [bools_of q] at h2
      exact ⟨p, bs, by rw [e1], by rw [← bls_of h2]; exact h1, k _ I H (.refl w) (.bl _) trivial⟩
    · cases e
  · cases e
/-! sum, min, max of ints -/
def intsD : List PyData → Option (List Int)
  | [] => some []
  | .int b :: r => match intsD r with
    | some bs => some (b :: bs)
    | none => none
  | _ :: _ => none
theorem intsD_of : ∀ {xs : List PyData} {bs : List Int}, intsD xs = some bs → xs = bs.map PyData.int
  | [], bs, h => by cases h; rfl
  | x :: r, bs, h => by
    cases x with
    | int b =>
      unfold intsD at h
      cases q : intsD r with
      | none => simp only [q] at h; cases h
      | some cs => simp only [q] at h; cases h; rw [List.map_cons, intsD_of q]
    | _ => cases h
theorem ints_vs {I : Hp} : ∀ {bs : List Int} {vs : List V}, DpAll K I vs (bs.map PyData.int) → vs = bs.map V.int
  | [], _, h => by cases h; rfl
  | b :: bs, _, h => by
    cases h with
    | cons h1 h2 =>
      cases h1
      rw [ints_vs h2]
      rfl
def leastI : List Int → Option Int
  | [] => none
  | x :: r => some (r.foldl min x)
theorem foldl_min_le : ∀ (r : List Int) (x : Int), r.foldl min x ≤ x ∧ ∀ y ∈ r, r.foldl min x ≤ y
  | [], x => ⟨Int.le_refl _, fun _ h => by cases h⟩
  | z :: r, x => by
    obtain ⟨h1, h2⟩ := foldl_min_le r (min x z)
    refine ⟨Int.le_trans h1 (Int.min_le_left _ _), fun y hy => ?_⟩
    rcases List.mem_cons.mp hy with e | e
    · subst e; exact Int.le_trans h1 (Int.min_le_right _ _)
    · exact h2 y e
theorem foldl_min_mem : ∀ (r : List Int) (x : Int), r.foldl min x = x ∨ r.foldl min x ∈ r
  | [], x => .inl rfl
  | z :: r, x => by
    rcases foldl_min_mem r (min x z) with h | h
    · by_cases hz : x ≤ z
      · rw [List.foldl_cons, h, Int.min_eq_left hz]; exact .inl rfl
      · rw [List.foldl_cons, h, Int.min_eq_right (by omega)]; exact .inr List.mem_cons_self
    · exact .inr (List.mem_cons_of_mem _ h)
def minG (x : PyData) : Option Sv := match x with
  | .list xs => match intsD xs with
    | some bs => match leastI bs with
      | some m => some (.d (.int m))
      | none => none
    | none => none
  | _ => none
theorem cd_minL : CDo K (rMin K) (see1 minG) := see1_of fun st n I H v x sv Q w hs e k => by
  unfold minG at e
  split at e
  · split at e
    · split at e
      · rename_i xs _ bs q _ m hm
        cases e
        obtain ⟨p, vs, e1, h1, h2⟩ := hs.lst w.im
        rw [intsD_of q] at h2
        cases bs with
        | nil => cases hm
        | cons b r =>
          have hm' : r.foldl min b = m := Option.some.inj hm
          refine ⟨p, b :: r, by rw [e1], by rw [← ints_vs h2]; exact h1, Nat.succ_pos _, fun m' h3 h4 => ?_⟩
          obtain ⟨l1, l2⟩ := foldl_min_le r b
          have le1 : m ≤ m' := by
            rw [← hm']
            rcases List.mem_cons.mp h3 with z | z
            · rw [z]; exact l1
            · exact l2 m' z
          have le2 : m' ≤ m := by
            rw [← hm']
            rcases foldl_min_mem r b with z | z
            · rw [z]; exact h4 b List.mem_cons_self
            · exact h4 _ (List.mem_cons_of_mem _ z)
          have : m' = m := Int.le_antisymm le2 le1
          rw [this]
          exact k _ I H (.refl w) (.int _) trivial
      · cases e
    · cases e
  · cases e
/-! min(a, b) -/
def min2G : List Sv → Option Sv
  | [.d (.int i), .d (.int j)] => some (.d (.int (if j < i then j else i)))
  | _ => none
theorem cd_min2 : CDo K (fun xs H Q => ∃ i j, xs = [.int i, .int j] ∧ Q (.int (if j < i then j else i)) H) min2G := by
  intro st n I H vs as sv Q w ra e k
  unfold min2G at e
  split at e
  · rename_i i j
    cases e
    cases ra with
    | cons h1 _ h3 =>
      cases h3 with
      | cons h4 _ h5 =>
        cases h5
        cases h1
        cases h4
        exact ⟨_, _, rfl, k _ I H (.refl w) (.int _) trivial⟩
  · cases e
def rMinA (K : KW) : List V → Hp → VK → Prop := fun xs H Q => (∃ i j, xs = [.int i, .int j] ∧ Q (.int (if j < i then j else i)) H) ∨ rMin K xs H Q
theorem call_minA (hc : X.calm = true) : CallR X (.builtin "min") (rMinA X.kw) := fun pins s σ H xs us Q I r h => by
  rcases h with h | h
  · exact call_min2 hc pins s σ H xs us Q I r h
  · exact cr_min hc pins s σ H xs us Q I r h
def minAG (as : List Sv) : Option Sv := match as with
  | [_, _] => min2G as
  | _ => see1 minG as
theorem cd_minA : CDo K (rMinA K) minAG := by
  intro st n I H vs as sv Q w ra e k
  unfold minAG at e
  split at e
  · exact .inl (cd_min2 st n I H vs _ sv Q w ra e k)
  · exact .inr (cd_minL st n I H vs _ sv Q w ra e k)
/-! sorted -/
def sortOk (ds : List PyData) : Bool := ds.all (fun d => ds.all fun e => PySem.W.alike d e) && (ds.all isT || ds.all (fun d => match d with
    | .none => false
    | .tuple _ => false
    | _ => true)) && ds.all (fun d => decide (d.depth ≤ 60)) && decide (ds.length ≤ big)
theorem sortOk_of {ds : List PyData} (h : sortOk ds = true) : PySem.W.AllAlike ds ∧ Sortable2 ds ∧ (∀ d ∈ ds, d.depth ≤ 60) ∧ ds.length ≤ big := by
  unfold sortOk at h
  simp only [Bool.and_eq_true, List.all_eq_true, Bool.or_eq_true, decide_eq_true_eq] at h
  obtain ⟨⟨⟨h1, h2⟩, h3⟩, h4⟩ := h
  refine ⟨fun d hd e he => h1 d hd e he, ?_, h3, h4⟩
  rcases h2 with h2 | h2
  · exact .inr h2
  · refine .inl (.inr fun d hd => ?_)
    have q := h2 d hd
    split at q
    · cases q
    · cases q
    · rename_i q1 q2
      exact ⟨q1, q2⟩
def sortD (ds : List PyData) : List PyData := ds.mergeSort (PySem.W.dataLe false id)
end
end Sb
/-! P3: sorted of a list, a tuple, a text. -/
namespace Sb
open PySem PySem.Spec PyProof.Rows L2
section
variable {P : Program} {w : World} {A : Around} {E : Value → Shared → Prop} {s : Shared}
abbrev RelZ (v : Value) (b : V × PyData) : Prop := RelV b.1 v
theorem sortedC {Q : Value → Shared → Prop} {x : Value} {zs : List (V × PyData)}
    (col : ∀ Q' : List Value → Shared → Prop, (∀ s1 us, (∀ b o, s.heap.get? b = some o → s1.heap.get? b = some o) → s1.gens = s.gens → s1.os = s.os → PySem.W.EachIs RelZ us zs → PySem.W.EachIs (fun v b => ∃ as, Reads s1.heap v b.2 as) us zs → Q' us s1) → wpAny (model P w) A.in1 (collect x) Q' E s)
    (hal : PySem.W.AllAlike (zs.map Prod.snd)) (hk : Sortable2 (zs.map Prod.snd)) (hL : zs.length ≤ sizeLine) (hu : ∀ b ∈ zs, A.units + 2 + b.2.depth < cLine)
    (q : ∀ s' p (out : Array Value) (c : Nat), (∀ b o, s.heap.get? b = some o → s'.heap.get? b = some o) → s'.gens = s.gens → s'.os = s.os → s.heap.get? p = none → s'.heap.get? p = some (seqObj "list" out c) →
      Vals ((zs.mergeSort (PySem.W.dataLe false Prod.snd)).map Prod.fst) out.toList → Q (.ref p) s') : wpAny (model P w) A (call (.builtin "sorted") [x]) Q E s := by
  refine Calls.call_function_entry kind_sorted plain_sorted entry_sorted (args_sorted1 _) ?_
  unfold Builtin.«sorted»
  refine wpAny_bind (m := checkCount "sorted" 1 1 _) (wpAny_pure (wpAny_bind ?_))
  refine col _ fun s1 us z1 z2 z3 e1 e2 => ?_
  have hl : us.length = zs.length := e1.length
  refine wpAny_bind (wpAny_newList ?_ (by rw [hl]; exact hL))
  have ho : (s1.heap.push (seqObj "list" us.toArray 0)).get? s1.heap.objs.size = some (seqObj "list" us.toArray 0) := Heap.get?_push_size _ rfl
  have old : ∀ b o, s1.heap.get? b = some o → (PySem.W.sortingHeap (s1.heap.push (seqObj "list" us.toArray 0)) s1.heap.objs.size us).get? b = some o := fun b o h =>
    PySem.W.sortingHeap_old (Nat.ne_of_lt (Heap.lt_size h)) (Heap.get?_push_of_some _ h)
  have er : PySem.W.EachIs (fun v (b : V × PyData) => ∃ as, Reads (PySem.W.sortingHeap (s1.heap.push (seqObj "list" us.toArray 0)) s1.heap.objs.size us) v b.2 as) us zs :=
    e2.mono fun _ _ ⟨as, r⟩ => ⟨as, PyProof.Rows.Reads.keeps (fun _ _ h => old _ _ h) r⟩
  have hu2 : ∀ d, d ∈ zs.map Prod.snd → (A.units + 2) + d.depth < cLine := fun d hd => by
    obtain ⟨b, hb, rfl⟩ := List.mem_map.mp hd
    exact hu b hb
  refine wpAny_bind (wpAny_holding (wpAny_call_entry_kw slot_list_sort ⟨_, ho, rfl⟩ entry_list_sort ?sb_body (args_list_sort _)))
  case sb_body =>
    refine PySem.W.list_sort_vals (s := { s1 with heap := s1.heap.push (seqObj "list" us.toArray 0) }) ho (sorts2 (s := { s1 with heap := PySem.W.sortingHeap (s1.heap.push (seqObj "list" us.toArray 0)) s1.heap.objs.size us }) (PySem.W.each_map (R := fun v d => ∃ as, Reads (PySem.W.sortingHeap (s1.heap.push (seqObj "list" us.toArray 0)) s1.heap.objs.size us) v d as) Prod.snd er) hal hk ?_) (by rw [hl]; exact hL) ?_
    · exact hu2
    · refine ⟨_, rfl, wpAny_pure ⟨_, rfl, ?_⟩⟩
      have ev := PySem.W.sortVals_data false e1 er hal
      obtain ⟨c, hc⟩ := sortedHeap_at (vs := us) (out := (PySem.W.sortVals (PySem.W.dataKind (PySem.W.sortingHeap (s1.heap.push (seqObj "list" us.toArray 0)) s1.heap.objs.size us) (zs.map Prod.snd)) false us us).toArray) ho
      refine q _ s1.heap.objs.size _ c (fun b u e => ?_) z2 z3 ?_ hc (vals_each ev)
      · have e1 := z1 b u e
        have lt := Heap.lt_size e1
        refine (sortedHeap_old (Nat.ne_of_lt lt) ?_).trans (Heap.get?_push_of_some _ e1)
        rw [size_push']
        exact Nat.lt_succ_of_lt lt
      · cases hs : s.heap.get? s1.heap.objs.size with
        | none => rfl
        | some o => exact absurd (Heap.lt_size (z1 _ _ hs)) (Nat.lt_irrefl _)
end
section
variable {K : KW}
theorem dpAll_zip {I : Hp} : ∀ {zs : List (V × PyData)}, (∀ z ∈ zs, Dp K I z.1 z.2) → DpAll K I (zs.map Prod.fst) (zs.map Prod.snd)
  | [], _ => .nil
  | z :: zs, h => .cons (h z List.mem_cons_self) (dpAll_zip fun y hy => h y (List.mem_cons_of_mem _ hy))
theorem zip_dp {I : Hp} : ∀ {vs : List V} {ds : List PyData}, DpAll K I vs ds → ∀ z ∈ vs.zip ds, Dp K I z.1 z.2
  | [], _, h, z, hz => by cases h; cases hz
  | _ :: _, _, h, z, hz => by
    cases h with
    | cons h1 h2 =>
      rcases List.mem_cons.mp hz with e | e
      · subst e; exact h1
      · exact zip_dp h2 z e
theorem sort_zip {I : Hp} {vs : List V} {ds : List PyData} (h : DpAll K I vs ds) : DpAll K I (((vs.zip ds).mergeSort (PySem.W.dataLe false Prod.snd)).map Prod.fst) (sortD ds) := by
  have e : sortD ds = ((vs.zip ds).mergeSort (PySem.W.dataLe false Prod.snd)).map Prod.snd := by
    rw [List.map_mergeSort (r := PySem.W.dataLe false Prod.snd) (s := PySem.W.dataLe false id) (f := Prod.snd) (l := vs.zip ds) (fun a _ b _ => rfl), snd_zip (DpAll.len h)]
    rfl
  rw [e]
  exact dpAll_zip fun z hz => zip_dp h z (List.mem_mergeSort.mp hz)
end
section
variable {X : Cx}
/-- sorted of a list, a tuple -/
def rSortS (K : KW) : List V → Hp → VK → Prop := fun vs H Q => ∃ (a : Addr) (xs : List V) (ds : List PyData), vs = [.ref a] ∧ (SqL K H a xs ∨ SqT K H a xs) ∧ DpAll K H xs ds ∧ sortOk ds = true ∧
  ∀ p, H p = none → Q (.ref p) (upd H p (.lst (((xs.zip ds).mergeSort (PySem.W.dataLe false Prod.snd)).map Prod.fst)))
theorem cr_sortS (hu : X.A.units + 64 < cLine) : CallR X (.builtin "sorted") (rSortS X.kw) := by
  intro pins s σ H vs us Q I r ⟨a, xs, ds, e, hs, hd, ok, q⟩
  subst e
  obtain ⟨hal, hk, hdp, hlen⟩ := sortOk_of ok
  have el : xs.length = ds.length := DpAll.len hd
  have ez : (xs.zip ds).map Prod.snd = ds := snd_zip el
  have hl2 : (xs.zip ds).length = ds.length := by rw [List.length_zip, el, Nat.min_self]
  rw [Vals.ref1 r]
  refine sortedC (zs := xs.zip ds) (fun Q' k => ?_) (by rw [ez]; exact hal) (by rw [ez]; exact hk) (by rw [hl2]; exact big_le hlen) (fun b hb => ?_) fun s' p out c z1 z2 z3 z4 z5 z6 => ?_
  · rcases hs with hs | hs
    · obtain ⟨its, rv, ⟨o, n, ho, hc, _, hdt⟩, hz⟩ := I.list hs
      have hz' : its.length ≤ sizeLine := by rw [← rv.length]; exact hz
      refine wpAny_collect_seq a (.inl rfl) ho hc hdt (fun h' hk => ?_) (by simpa using hz')
      exact k _ _ hk rfl rfl (each_rel rv el) ((each_reads I rv hd).mono fun _ _ ⟨as, z⟩ => ⟨as, PyProof.Rows.Reads.keeps (fun _ _ y => hk _ _ y) z⟩)
    · obtain ⟨its, rv, ⟨o, ho, hc, n, hdt⟩, hz⟩ := I.tuple hs
      have hz' : its.length ≤ sizeLine := by rw [← rv.length]; exact hz
      refine wpAny_collect_seq a (.inr rfl) ho hc hdt (fun h' hk => ?_) (by simpa using hz')
      exact k _ _ hk rfl rfl (each_rel rv el) ((each_reads I rv hd).mono fun _ _ ⟨as, z⟩ => ⟨as, PyProof.Rows.Reads.keeps (fun _ _ y => hk _ _ y) z⟩)
  · have := hdp b.2 (by rw [← ez]; exact List.mem_map_of_mem hb)
    omega
  · have hn := I.hok.gone z4
    have len : (((xs.zip ds).mergeSort (PySem.W.dataLe false Prod.snd)).map Prod.fst).length ≤ sizeLine := by
      rw [List.length_map, List.length_mergeSort, hl2]
      exact big_le hlen
    have J : Inv X pins σ (upd H p (.lst (((xs.zip ds).mergeSort (PySem.W.dataLe false Prod.snd)).map Prod.fst))) { s with heap := s'.heap, gens := s'.gens, drawn := s'.drawn, toks := s'.toks } :=
      I.call (ch := []) (Un.laidN z1 z4 hn) (I.hok.laidN z1 hn ⟨len, out.toList, c, z6, z5⟩) (by rw [z2]; exact I.bare) nofun
    have es' : s' = { s with heap := s'.heap, gens := s'.gens, drawn := s'.drawn, toks := s'.toks } := by
      cases s
      cases s'
      cases z3
      rfl
    rw [es']
    exact ⟨.ref p, _, J, rfl, q p hn⟩
/-! sorted of a text -/
def signs (z : Str) : List Str := z.cps.toList.map fun c => ⟨#[c]⟩
def rSortZ : List V → Hp → VK → Prop := fun vs H Q => ∃ z, vs = [.str z] ∧ z.length ≤ big ∧ ∀ p, H p = none → Q (.ref p) (upd H p (.lst (((signs z).mergeSort fun a b => !PySem.W.dataLt (.str b) (.str a)).map V.str)))
theorem cr_sortZ (hc : X.calm = true) (hu : X.A.units + 64 < cLine) : CallR X (.builtin "sorted") rSortZ := by
  intro pins s σ H vs us Q I r ⟨z, e, hz, q⟩
  subst e
  cases r with
  | cons r0 rr =>
    cases rr
    obtain ⟨t, rfl⟩ := r0
    have e1 : ((signs z).map fun c => (V.str c, PyData.str c)).map Prod.snd = (signs z).map PyData.str := by rw [List.map_map]; rfl
    have hlz : (signs z).length = z.cps.size := by unfold signs; rw [List.length_map, Array.length_toList]
    have hlen : (signs z).length ≤ sizeLine := by rw [hlz]; exact big_le hz
    refine sortedC (zs := (signs z).map fun c => (V.str c, PyData.str c)) (fun Q' k => ?_) ?_ ?_ (by rw [List.length_map]; exact hlen) (fun b hb => ?_) fun s' p out c z1 z2 z3 z4 z5 z6 => ?_
    · refine wpAny_collect_str (A := X.A.in1) (I.ok.hd hc) z t (fun s1 acc k1 k2 k3 k4 its => ?_) (big_le hz)
      have ev : ∀ (cs : List Nat) (j : Nat) (us : List Value), us.length = cs.length → (∀ (i : Nat) (v : Value), us[i]? = some v → ∃ c u, cs[i]? = some c ∧ v = Value.str ⟨#[c]⟩ u) →
          PySem.W.EachIs (fun v (b : V × PyData) => ∃ c u, v = Value.str ⟨#[c]⟩ u ∧ b = (V.str ⟨#[c]⟩, PyData.str ⟨#[c]⟩)) us ((cs.map fun c => (⟨#[c]⟩ : Str)).map fun c => (V.str c, PyData.str c)) := by
        intro cs
        induction cs with
        | nil =>
          intro j us hl _
          cases us with
          | nil => exact .nil
          | cons _ _ => cases hl
        | cons c cs ih =>
          intro j us hl hv
          cases us with
          | nil => cases hl
          | cons u us =>
            obtain ⟨c', t', h1, h2⟩ := hv 0 u rfl
            cases h1
            exact .cons ⟨_, _, h2, rfl⟩ (ih (j + 1) us (by simpa using hl) fun i v h => by simpa using hv (i + 1) v (by simpa using h))
      have all := ev z.cps.toList 0 acc.toList (by rw [Array.length_toList, Array.length_toList]; exact its.1) (fun i v h => by
        obtain ⟨c, u, h1, h2⟩ := its.2 i v (by simpa using h)
        exact ⟨c, u, by simpa using h1, h2⟩)
      refine k _ _ k1 k2 k4 (all.mono fun v b ⟨c, u, e1, e2⟩ => ?_) (all.mono fun v b ⟨c, u, e1, e2⟩ => ?_)
      · subst e1 e2
        exact ⟨_, rfl⟩
      · subst e1 e2
        exact ⟨_, Reads.str _ _⟩
    · rw [e1]
      intro d hd d' hd'
      obtain ⟨c, _, rfl⟩ := List.mem_map.mp hd
      obtain ⟨c', _, rfl⟩ := List.mem_map.mp hd'
      rfl
    · rw [e1]
      refine .inl (.inr fun d hd => ?_)
      obtain ⟨c, _, rfl⟩ := List.mem_map.mp hd
      exact ⟨nofun, nofun⟩
    · obtain ⟨c, _, rfl⟩ := List.mem_map.mp hb
      show X.A.units + 2 + 0 < cLine
      omega
    · have hn := I.hok.gone z4
      have es : (((signs z).map fun c => (V.str c, PyData.str c)).mergeSort (PySem.W.dataLe false Prod.snd)).map Prod.fst = ((signs z).mergeSort fun a b => !PySem.W.dataLt (.str b) (.str a)).map V.str := by
        rw [← List.map_mergeSort (r := fun a b => !PySem.W.dataLt (.str b) (.str a)) (s := PySem.W.dataLe false Prod.snd) (f := fun c => (V.str c, PyData.str c)) (l := signs z) (fun a _ b _ => rfl), List.map_map]
        rfl
      rw [es] at z6
      have len : (((signs z).mergeSort fun a b => !PySem.W.dataLt (.str b) (.str a)).map V.str).length ≤ sizeLine := by
        rw [List.length_map, List.length_mergeSort]
        exact hlen
      have J : Inv X pins σ (upd H p (.lst (((signs z).mergeSort fun a b => !PySem.W.dataLt (.str b) (.str a)).map V.str))) { s with heap := s'.heap, gens := s'.gens, drawn := s'.drawn, toks := s'.toks } :=
        I.call (ch := []) (Un.laidN z1 z4 hn) (I.hok.laidN z1 hn ⟨len, out.toList, c, z6, z5⟩) (by rw [z2]; exact I.bare) nofun
      have es' : s' = { s with heap := s'.heap, gens := s'.gens, drawn := s'.drawn, toks := s'.toks } := by
        cases s
        cases s'
        cases z3
        rfl
      rw [es']
      exact ⟨.ref p, _, J, rfl, q p hn⟩
def rSortAll (K : KW) : List V → Hp → VK → Prop := fun vs H Q => rSortS K vs H Q ∨ rSortZ vs H Q
theorem cr_sortAll (hc : X.calm = true) (hu : X.A.units + 64 < cLine) : CallR X (.builtin "sorted") (rSortAll X.kw) := fun pins s σ H xs us Q I r h => by
  rcases h with h | h
  · exact cr_sortS hu pins s σ H xs us Q I r h
  · exact cr_sortZ hc hu pins s σ H xs us Q I r h
def sortZ (z : Str) : List Str := (signs z).mergeSort fun a b => !PySem.W.dataLt (.str b) (.str a)
def sortG (x : PyData) : Option Sv := match x with
  | .list xs => if sortOk xs = true then some (.cell (sortD xs)) else none
  | .tuple xs => if sortOk xs = true then some (.cell (sortD xs)) else none
  | .str z => if z.length ≤ big then some (.cell ((sortZ z).map PyData.str)) else none
  | _ => none
theorem DpAll.strs' {K : KW} {H : Hp} : ∀ ns : List Str, DpAll K H (ns.map V.str) (ns.map PyData.str)
  | [] => .nil
  | n :: ns => .cons (.str n) (DpAll.strs' ns)
theorem cd_sortAll {K : KW} : CDo K (rSortAll K) (see1 sortG) := see1_of fun st n I H v x sv Q w hs e k => by
  unfold sortG at e
  split at e
  · split at e
    · rename_i xs ok
      cases e
      obtain ⟨p, vs, e1, h1, h2⟩ := hs.lst w.im
      refine .inl ⟨p, vs, xs, by rw [e1], .inl h1, DpAll.mono w.im.sub _ _ h2, ok, fun p' hp => ?_⟩
      obtain ⟨x4, k4, k5⟩ := sv_cellNew w (sort_zip h2) hp
      exact k _ _ _ x4 k4 k5
    · cases e
  · split at e
    · rename_i xs ok
      cases e
      obtain ⟨p, vs, e1, h1, _, h2⟩ := hs.tup w.im
      refine .inl ⟨p, vs, xs, by rw [e1], .inr h1, DpAll.mono w.im.sub _ _ h2, ok, fun p' hp => ?_⟩
      obtain ⟨x4, k4, k5⟩ := sv_cellNew w (sort_zip h2) hp
      exact k _ _ _ x4 k4 k5
    · cases e
  · split at e
    · rename_i z hz
      cases e
      refine .inr ⟨z, by rw [hs.str], hz, fun p' hp => ?_⟩
      obtain ⟨x4, k4, k5⟩ := sv_cellNew w (DpAll.strs' (sortZ z)) hp
      exact k _ _ _ x4 k4 k5
    · cases e
  · cases e
end
end Sb
/-! P4e: enumerate(a tuple). -/
/-! P4: isinstance, methods of texts, what is walked, targets, comprehensions. -/
namespace Sb
open PySem PySem.Spec PyProof.Rows L2
section
variable {X : Cx} {e e2 e3 : Expr} {es : List Expr} {f g : FE} {fa : FA} {ft fu : FT}
def fIsi (kb : PyData → Bool) (f : FE) : FE := fun e n => match f e n with
  | none => none
  | some (a, n1) => match a.see with
    | none => none
    | some x => some (.d (.bool (kb x)), n1)
theorem e_isi {T : String} {kb : PyData → Bool} {p pos : Pos} (hk : ∀ d, PySem.W.kitOne X.K (.type (tyD d)) (.type T) = some (kb d)) (hg : Gl X "isinstance") (hm : X.mg "isinstance" = none) (ha : PA X [e, e2] (tCons (tE X.kw f) (tCons (tC (.ty T)) tNil)))
    (he : starEach [e, e2] X.env = (false, eval e X.env) :: starEach [e2] X.env := by rfl) (hpl : (backTo pos (starEach [e2] X.env)).any (·.1) = false := by rfl) : PE X (.Call (.Name "isinstance" p) [e, e2] [] pos) (tE X.kw (fIsi kb f)) :=
  (pe_callB call_isi hg hm (by decide +kernel) ha (by decide) (by decide) he hpl).by fun σ H Q ⟨st, n, H0, I, ev, w, E, sv, n', q, k⟩ => by
    unfold fIsi at q
    split at q
    · cases q
    · rename_i a n1 q1
      split at q
      · cases q
      · rename_i x q2
        cases q
        refine ⟨st, n, H0, I, ev, w, E, a, _, q1, fun v I1 H1 x1 r1 _ => ?_⟩
        have hd := (r1.see q2).dp x1.w.im
        exact ⟨v, .ty T, .type (tyD x), .type T, kb x, rfl, .ty _, dp_ty hd, hk x, k _ I1 H1 x1 (.bl _) trivial⟩
/-! ### methods -/
def tyS (T : String) (a : Sv) : Bool := match a.see with
  | some (.str _) => T == "str"
  | some (.list _) => T == "list"
  | _ => false
def fMt (T : String) (g : Sv → List Sv → Option Sv) (f : FE) (fa : FA) : FE := fun e n => match f e n with
  | none => none
  | some (a, n1) => if tyS T a = true then match fa e n1 with
      | none => none
      | some (as, n2) => match g a as with
        | none => none
        | some r => some (r, n2)
    else none
def MDo (K : KW) (r : V → List V → Hp → VK → Prop) (g : Sv → List Sv → Option Sv) : Prop := ∀ st n I H x a vs as sv (Q : VK), Wr st n I H → SvR K st I H x a → ArgsR K st I H vs as → g a as = some sv → (∀ v I' H', Xt st n I H I' H' → SvR K st I' H' v sv → Fr H v sv → Q v H') → r x vs H Q
theorem tyS_of {K : KW} {st n I H v a T} (w : Wr st n I H) (h : SvR K st I H v a) (e : tyS T a = true) : tyV K T v H := by
  unfold tyS at e
  split at e
  · rename_i z q
    rw [(h.see q).str]
    exact beq_iff_eq.mp e
  · rename_i z q
    obtain ⟨p, vs, e1, h1, _⟩ := (h.see q).lst w.im
    rw [e1]
    exact .inl ⟨beq_iff_eq.mp e, vs, h1⟩
  · cases e
theorem e_mt {T : String} {r : V → List V → Hp → VK → Prop} {gg : Sv → List Sv → Option Sv} (hd : MDo X.kw r gg) (h : PE X e (tBM X.K T r (tE X.kw f) (tAs X.kw fa))) : PE X e (tE X.kw (fMt T gg f fa)) :=
  h.by fun σ H Q ⟨st, n, H0, I, ev, w, E, sv, n', q, k⟩ => by
    unfold fMt at q
    split at q
    · cases q
    · rename_i a n1 q1
      split at q
      · rename_i ty
        split at q
        · cases q
        · rename_i as n2 q2
          split at q
          · cases q
          · rename_i rr q3
            cases q
            refine ⟨st, n, H0, I, ev, w, E, a, _, q1, fun x I1 H1 x1 r1 f1 => ⟨tyS_of x1.w r1 ty, st, n1, H0, I1, ev, x1.w, E.mono x1, as, _, q2, fun vs I2 H2 x2 r2 => ?_⟩⟩
            exact hd st _ I2 H2 x a vs as sv Q x2.w (r1.mono x2) r2 q3 fun v I3 H3 x3 r3 f3 => k v I3 H3 ((x1.trans x2).trans x3) r3 (Fr.back (x1.trans x2) r3 f3)
      · cases q
/-! join, count -/
def strsD : List PyData → Option (List Str)
  | [] => some []
  | .str b :: r => match strsD r with
    | some bs => some (b :: bs)
    | none => none
  | _ :: _ => none
theorem strsD_of : ∀ {xs : List PyData} {bs : List Str}, strsD xs = some bs → xs = bs.map PyData.str
  | [], bs, h => by cases h; rfl
  | x :: r, bs, h => by
    cases x with
    | str b =>
      unfold strsD at h
      cases q : strsD r with
      | none => simp only [q] at h; cases h
      | some cs => simp only [q] at h; cases h; rw [List.map_cons, strsD_of q]
    | _ => cases h
theorem strs_vs {K : KW} {I : Hp} : ∀ {bs : List Str} {vs : List V}, DpAll K I vs (bs.map PyData.str) → vs = bs.map V.str
  | [], _, h => by cases h; rfl
  | b :: bs, _, h => by
    cases h with
    | cons h1 h2 =>
      cases h1
      rw [strs_vs h2]
      rfl
def joinG (a : Sv) (as : List Sv) : Option Sv := match a, as with
  | .d (.str z), [b] => match b.see with
    | some (.list xs) => match strsD xs with
      | some ys => if (ys.map (·.length)).sum + ys.length * z.length ≤ big then some (.d (.str (Txt.join z ys))) else none
      | none => none
    | some (.tuple xs) => match strsD xs with
      | some ys => if (ys.map (·.length)).sum + ys.length * z.length ≤ big then some (.d (.str (Txt.join z ys))) else none
      | none => none
    | _ => none
  | _, _ => none
theorem md_join {K : KW} : MDo K (fun x xs H Q => ∃ a p, ∃ ys : List Str, x = .str a ∧ xs = [.ref p] ∧ (SqL K H p (ys.map V.str) ∨ SqT K H p (ys.map V.str)) ∧ (ys.map (·.length)).sum + ys.length * a.length ≤ 16777216 ∧ Q (.str (Txt.join a ys)) H) joinG := by
  intro st n I H x a vs as sv Q w ra rs e k
  unfold joinG at e
  split at e
  · rename_i z b
    cases rs with
    | cons h1 _ h3 =>
      cases h3
      cases ra
      split at e
      · rename_i xs q1
        split at e
        · rename_i ys q2
          split at e
          · rename_i hl
            cases e
            obtain ⟨p, us, e1, h4, h5⟩ := (h1.see q1).lst w.im
            rw [strsD_of q2] at h5
            exact ⟨z, p, ys, rfl, by rw [e1], .inl (by rw [← strs_vs h5]; exact h4), Nat.le_trans hl (by decide), k _ I H (.refl w) (.str _) trivial⟩
          · cases e
        · cases e
      · rename_i xs q1
        split at e
        · rename_i ys q2
          split at e
          · rename_i hl
            cases e
            obtain ⟨p, us, e1, h4, _, h5⟩ := (h1.see q1).tup w.im
            rw [strsD_of q2] at h5
            exact ⟨z, p, ys, rfl, by rw [e1], .inr (by rw [← strs_vs h5]; exact h4), Nat.le_trans hl (by decide), k _ I H (.refl w) (.str _) trivial⟩
          · cases e
        · cases e
      · cases e
  · cases e
/-! ### what is walked -/
abbrev FI := Ev → Nat → Option (List PyData × Nat)
def JR (K : KW) (st : Stt) (J : It) (xs : List PyData) (I : Hp) (P : Hp → Prop) : Prop := ∃ (G : Hp → Prop) (Y : Nat → Hp → V → Hp → Prop), Walk J xs.length G Y ∧ (∀ n1 I1 H1, Wr st n1 I1 H1 → Same I I1 → P H1 → G H1) ∧
  ∀ n1 I1 H1 i x H2, Wr st n1 I1 H1 → Same I I1 → P H1 → i < xs.length → Y i H1 x H2 → ∃ I2 d, xs[i]? = some d ∧ Xt st n1 I1 H1 I2 H2 ∧ Dp K I2 x d
theorem JR.imp {K : KW} {st J xs I P P'} (h : JR K st J xs I P) (k : ∀ H, P' H → P H) : JR K st J xs I P' := by
  obtain ⟨G, Y, w, g, y⟩ := h
  exact ⟨G, Y, w, fun n1 I1 H1 a b c => g n1 I1 H1 a b (k _ c), fun n1 I1 H1 i x H2 a b c => y n1 I1 H1 i x H2 a b (k _ c)⟩
/-- c: in a comprehension, where lists of one's own stand still -/
def Still (c : Bool) (st : Stt) (H' H1 : Hp) : Prop := c = true → ∀ b o, b ≠ st.a → H' b = some o → H1 b = some o
def tIs (K : KW) (c : Bool) (it : FI) : TI := fun σ H R => ∃ st n H0 I e, Wr st n I H ∧ Er K st H0 I H σ e ∧ ∃ xs n', it e n = some (xs, n') ∧ xs.length ≤ big ∧ ∀ J I' H', Xt st n' I H I' H' → JR K st J xs I' (Still c st H') → R J H'
theorem PI.or {tg it : Expr} {t u : TI} (h1 : PI X tg it t) (h2 : PI X tg it u) : PI X tg it (fun σ H R => t σ H R ∨ u σ H R) := ⟨fun pins s σ H R I q => by
  rcases q with q | q
  · exact h1.run pins s σ H R I q
  · exact h2.run pins s σ H R I q⟩
theorem jr_seq {K : KW} {st I vs xs} {P : Hp → Prop} {S : Hp → Prop} {J : It} (w : Walk J vs.length S (YAt vs)) (hd : DpAll K I vs xs) (hS : ∀ n1 I1 H1, Wr st n1 I1 H1 → Same I I1 → P H1 → S H1) : JR K st J xs I P := by
  refine ⟨S, YAt vs, by rw [← DpAll.len hd]; exact w, hS, fun n1 I1 H1 i x H2 w1 s1 p hi ⟨e, hx⟩ => ?_⟩
  subst e
  obtain ⟨d, e1, k1⟩ := DpAll.get hd hx
  exact ⟨I1, d, e1, .refl w1, Dp.mono s1 _ _ k1⟩
/-- a list, a tuple, a text: to keep -/
def itTake (f : FE) : FI := fun e n => match f e n with
  | some (.d (.list xs), n1) => some (xs, n1)
  | some (.cell xs, n1) => some (xs, n1)
  | some (.d (.tuple xs), n1) => some (xs, n1)
  | some (.d (.str z), n1) => some ((signs z).map PyData.str, n1)
  | _ => none
/-- .. to look at -/
def itSee (f : FE) : FI := fun e n => match f e n with
  | some (.bor xs, n1) => some (xs, n1)
  | some (.d (.list xs), n1) => some (xs, n1)
  | some (.cell xs, n1) => some (xs, n1)
  | some (.d (.tuple xs), n1) => some (xs, n1)
  | some (.d (.str z), n1) => some ((signs z).map PyData.str, n1)
  | _ => none
def iSeq (K : KW) (te : TE) : TI := fun σ H R => iList K te σ H R ∨ (iTup K te σ H R ∨ iStr te σ H R)
theorem pi_seq {tg : Expr} {te : TE} (h : PE X e te) : PI X tg e (iSeq X.kw te) := PI.or (pi_list h) (PI.or (pi_tup h) (pi_str h))
theorem jr_str {K : KW} {st I} {z : Str} {P : Hp → Prop} : JR K st (Its z) ((signs z).map PyData.str) I P := by
  have hl : ((signs z).map PyData.str).length = z.cps.size := by unfold signs; rw [List.length_map, List.length_map, Array.length_toList]
  refine ⟨fun _ => True, fun i H v H' => H' = H ∧ ∃ c, z.cps[i]? = some c ∧ v = .str ⟨#[c]⟩, by rw [hl]; exact walk_str, fun _ _ _ _ _ _ => trivial, fun n1 I1 H1 i x H2 w1 s1 p hi ⟨e, c, hc, hx⟩ => ?_⟩
  subst e hx
  refine ⟨I1, .str ⟨#[c]⟩, ?_, .refl w1, .str _⟩
  unfold signs
  rw [List.getElem?_map, List.getElem?_map, Array.getElem?_toList, hc]
  rfl
theorem i_for {tg : Expr} (h : PE X e (tE X.kw f)) : PI X tg e (tIs X.kw false (itTake f)) := (pi_seq h).by fun σ H R ⟨st, n, H0, I, ev, w, E, xs, n', q, hl, k⟩ => by
  unfold itTake at q
  split at q
  · rename_i ys n1 q1
    cases q
    refine .inl ⟨st, n, H0, I, ev, w, E, _, _, q1, fun v I1 H1 x1 r1 _ => ?_⟩
    cases r1 with
    | lst hs ha => exact ⟨_, rfl, ⟨_, x1.w.im.sub.seq hs⟩, k _ I1 H1 x1 (jr_seq walk_list ha fun n1 I2 H2 w2 s2 _ => w2.im.sub.seq (s2.seq hs))⟩
  · rename_i ys n1 q1
    cases q
    refine .inl ⟨st, n, H0, I, ev, w, E, _, _, q1, fun v I1 H1 x1 r1 f1 => ?_⟩
    obtain ⟨I2, x2, _, d2⟩ := SvR.keep (d := .list xs) x1 r1 f1 rfl
    cases d2 with
    | lst hs ha => exact ⟨_, rfl, ⟨_, x2.w.im.sub.seq hs⟩, k _ I2 H1 x2 (jr_seq walk_list ha fun n1 I2 H2 w2 s2 _ => w2.im.sub.seq (s2.seq hs))⟩
  · rename_i ys n1 q1
    cases q
    refine .inr (.inl ⟨st, n, H0, I, ev, w, E, _, _, q1, fun v I1 H1 x1 r1 _ => ?_⟩)
    cases r1 with
    | tup hs ha => exact ⟨_, rfl, ⟨_, ex_sqT x1.w.im.sub hs⟩, k _ I1 H1 x1 (jr_seq walk_tup ha fun n1 I2 H2 w2 s2 _ => ex_sqT w2.im.sub (ex_sqT s2 hs))⟩
  · rename_i z n1 q1
    cases q
    refine .inr (.inr ⟨st, n, H0, I, ev, w, E, _, _, q1, fun v I1 H1 x1 r1 _ => ?_⟩)
    cases r1
    exact ⟨z, rfl, k _ I1 H1 x1 jr_str⟩
  · cases q
theorem i_lc {tg : Expr} (h : PE X e (tE X.kw f)) : PI X tg e (tIs X.kw true (itSee f)) := (pi_seq h).by fun σ H R ⟨st, n, H0, I, ev, w, E, xs, n', q, hl, k⟩ => by
  unfold itSee at q
  split at q
  · rename_i ys n1 q1
    cases q
    refine .inl ⟨st, n, H0, I, ev, w, E, _, _, q1, fun v I1 H1 x1 r1 _ => ?_⟩
    obtain ⟨p, vs, e1, h1, h2, h3, h4⟩ := r1
    exact ⟨p, e1, ⟨vs, SqL.of h1⟩, k _ I1 H1 x1 (jr_seq walk_list h4 fun n1 I2 H2 w2 s2 st2 => SqL.of (st2 rfl p _ h3 h1))⟩
  · rename_i ys n1 q1
    cases q
    refine .inl ⟨st, n, H0, I, ev, w, E, _, _, q1, fun v I1 H1 x1 r1 _ => ?_⟩
    cases r1 with
    | lst hs ha => exact ⟨_, rfl, ⟨_, x1.w.im.sub.seq hs⟩, k _ I1 H1 x1 (jr_seq walk_list ha fun n1 I2 H2 w2 s2 _ => w2.im.sub.seq (s2.seq hs))⟩
  · rename_i ys n1 q1
    cases q
    refine .inl ⟨st, n, H0, I, ev, w, E, _, _, q1, fun v I1 H1 x1 r1 f1 => ?_⟩
    obtain ⟨p, vs, e1, h1, h2, h3, h4⟩ := r1
    exact ⟨p, e1, ⟨vs, SqL.of h1⟩, k _ I1 H1 x1 (jr_seq walk_list h4 fun n1 I2 H2 w2 s2 st2 => SqL.of (st2 rfl p _ h3 h1))⟩
  · rename_i ys n1 q1
    cases q
    refine .inr (.inl ⟨st, n, H0, I, ev, w, E, _, _, q1, fun v I1 H1 x1 r1 _ => ?_⟩)
    cases r1 with
    | tup hs ha => exact ⟨_, rfl, ⟨_, ex_sqT x1.w.im.sub hs⟩, k _ I1 H1 x1 (jr_seq walk_tup ha fun n1 I2 H2 w2 s2 _ => ex_sqT w2.im.sub (ex_sqT s2 hs))⟩
  · rename_i z n1 q1
    cases q
    refine .inr (.inr ⟨st, n, H0, I, ev, w, E, _, _, q1, fun v I1 H1 x1 r1 _ => ?_⟩)
    cases r1
    exact ⟨z, rfl, k _ I1 H1 x1 jr_str⟩
  · cases q
/-! range -/
def intsUp (lo : Int) (n : Nat) : List PyData := (List.range n).map fun (i : Nat) => .int (lo + (i : Int))
def smallI (i : Int) : Bool := decide (-(2 ^ 62) ≤ i) && decide (i < 2 ^ 62)
def itRng1 (fa : FA) : FI := fun e n => match fa e n with
  | some ([.d (.int j)], n1) => if smallI j = true then some (intsUp 0 j.toNat, n1) else none
  | _ => none
def itRng2 (fa : FA) : FI := fun e n => match fa e n with
  | some ([.d (.int i), .d (.int j)], n1) => if smallI i = true ∧ smallI j = true then some (intsUp i (j - i).toNat, n1) else none
  | _ => none
theorem jr_rng {K : KW} {st I lo n} {P : Hp → Prop} : JR K st (Itr lo n) (intsUp lo n) I P := by
  have hl : (intsUp lo n).length = n := by unfold intsUp; rw [List.length_map, List.length_range]
  refine ⟨fun _ => True, YFn fun i => .int (lo + i), by rw [hl]; exact walk_range, fun _ _ _ _ _ _ => trivial, fun n1 I1 H1 i x H2 w1 s1 p hi ⟨e, hx⟩ => ?_⟩
  subst e hx
  refine ⟨I1, _, ?_, .refl w1, .int _⟩
  rw [hl] at hi
  unfold intsUp
  rw [List.getElem?_map, List.getElem?_range hi]
  rfl
theorem small_of {i : Int} (h : smallI i = true) : -(2 ^ 62) ≤ i ∧ i < 2 ^ 62 := by
  unfold smallI at h
  simpa using h
theorem i_rng1 {c : Bool} {tg : Expr} (h : PI X tg e (iRng1 (tAs X.kw fa))) : PI X tg e (tIs X.kw c (itRng1 fa)) := h.by fun σ H R ⟨st, n, H0, I, ev, w, E, xs, n', q, hl, k⟩ => by
  unfold itRng1 at q
  split at q
  · rename_i j n1 q1
    split at q
    · rename_i hs
      cases q
      refine ⟨st, n, H0, I, ev, w, E, _, _, q1, fun vs I1 H1 x1 r1 => ?_⟩
      cases r1 with
      | cons h1 _ h2 =>
        cases h2
        cases h1
        exact ⟨j, rfl, (small_of hs).1, (small_of hs).2, k _ I1 H1 x1 jr_rng⟩
    · cases q
  · cases q
theorem i_rng2 {c : Bool} {tg : Expr} (h : PI X tg e (iRng2 (tAs X.kw fa))) : PI X tg e (tIs X.kw c (itRng2 fa)) := h.by fun σ H R ⟨st, n, H0, I, ev, w, E, xs, n', q, hl, k⟩ => by
  unfold itRng2 at q
  split at q
  · rename_i i j n1 q1
    split at q
    · rename_i hs
      cases q
      refine ⟨st, n, H0, I, ev, w, E, _, _, q1, fun vs I1 H1 x1 r1 => ?_⟩
      cases r1 with
      | cons h1 _ h2 =>
        cases h2 with
        | cons h3 _ h4 =>
          cases h4
          cases h1
          cases h3
          exact ⟨i, j, rfl, ⟨(small_of hs.1).1, (small_of hs.1).2, (small_of hs.2).1, (small_of hs.2).2⟩, k _ I1 H1 x1 jr_rng⟩
    · cases q
  · cases q
/-! enumerate, zip -/
/-! ### targets -/
abbrev FG := PyData → Ev → Option Ev
theorem wipe_in {σ : L2.St} {j : Nat} : ∀ {is : List Nat}, j ∈ is → (wipe σ is)[j]? = if j < σ.length then some none else none
  | [], h => by cases h
  | i :: is, h => by
    rw [wipe]
    by_cases e : i = j
    · subst e
      by_cases l : i < σ.length
      · rw [List.getElem?_set_self (by rw [wipe_length]; exact l), if_pos l]
      · rw [List.getElem?_eq_none (by rw [List.length_set, wipe_length]; omega), if_neg l]
    · rw [List.getElem?_set_ne e]
      rcases List.mem_cons.mp h with z | z
      · exact absurd z.symm e
      · exact wipe_in z
theorem wipe_wipe (σ : L2.St) (is : List Nat) : wipe (wipe σ is) is = wipe σ is := by
  apply List.ext_getElem?
  intro j
  by_cases h : j ∈ is
  · rw [wipe_in h, wipe_in h, wipe_length]
  · rw [wipe_get h]
theorem wipe_set {σ : L2.St} {is : List Nat} {i : Nat} {o : Option V} (h : i ∈ is) : wipe (σ.set i o) is = wipe σ is := by
  apply List.ext_getElem?
  intro j
  by_cases hj : j ∈ is
  · rw [wipe_in hj, wipe_in hj, List.length_set]
  · rw [wipe_get hj, wipe_get hj, List.getElem?_set_ne]
    intro e
    subst e
    exact hj h
/-- slots that a target leaves: data alone is new -/
def Kept (e e' : Ev) (σ σ' : L2.St) : Prop := ∀ (j : Nat) (sv : Sv), e'[j]? = some (some sv) → (∃ x, sv = .d x) ∨ (e[j]? = some (some sv) ∧ σ'[j]? = σ[j]?)
theorem Kept.refl {e : Ev} {σ : L2.St} : Kept e e σ σ := fun _ _ h => .inr ⟨h, rfl⟩
theorem Kept.trans {e e1 e2 : Ev} {σ σ1 σ2 : L2.St} (a : Kept e e1 σ σ1) (b : Kept e1 e2 σ1 σ2) : Kept e e2 σ σ2 := fun j sv h => by
  rcases b j sv h with x | ⟨x, y⟩
  · exact .inl x
  · rcases a j sv x with z | ⟨z, u⟩
    · exact .inl z
    · exact .inr ⟨z, y.trans u⟩
theorem Kept.set {e : Ev} {σ : L2.St} {i : Nat} {x : PyData} {v : V} : Kept e (e.set i (some (.d x))) σ (σ.set i (some v)) := fun j sv h => by
  by_cases q : i = j
  · subst q
    have hl : i < e.length := by
      have := (List.getElem?_eq_some_iff.mp h).1
      simpa using this
    rw [List.getElem?_set_self hl] at h
    cases h
    exact .inl ⟨_, rfl⟩
  · rw [List.getElem?_set_ne q] at h
    exact .inr ⟨h, List.getElem?_set_ne q⟩
def GDo (K : KW) (g : TG) (tg : FG) (sl : List Nat) : Prop := ∀ st H0 n I H σ e v x e' (Q : L2.St → Hp → Prop), Wr st n I H → Er K st H0 I H σ e → Dp K I v x → tg x e = some e' →
  (∀ σ', Er K st H0 I H σ' e' → (∀ own : List Nat, (∀ i ∈ sl, i ∈ own) → wipe σ' own = wipe σ own) → Kept e e' σ σ' → Q σ' H) → g v σ H Q
def tgN (i : Nat) : FG := fun x e => some (e.set i (some (.d x)))
theorem gd_name {K : KW} {i : Nat} : GDo K (gName i) (tgN i) [i] := by
  intro st H0 n I H σ e v x e' Q w E hd q k
  cases q
  exact k _ (E.setD i hd) (fun own h => wipe_set (h i List.mem_cons_self)) .set
def tgs : List FG → List PyData → Ev → Option Ev
  | [], [], e => some e
  | t :: ts, x :: xs, e => match t x e with
    | none => none
    | some e1 => tgs ts xs e1
  | _, _, _ => none
def tgT (ts : List FG) : FG := fun x e => match x with
  | .tuple xs => tgs ts xs e
  | _ => none
theorem tgs_len : ∀ {ts : List FG} {xs : List PyData} {e e' : Ev}, tgs ts xs e = some e' → xs.length = ts.length
  | [], [], _, _, _ => rfl
  | [], _ :: _, _, _, h => by cases h
  | _ :: _, [], _, _, h => by cases h
  | t :: ts, x :: xs, e, e', h => by
    unfold tgs at h
    split at h
    · cases h
    · rw [List.length_cons, List.length_cons, tgs_len h]
def GDs (K : KW) (g : TGs) (ts : List FG) (sl : List Nat) : Prop := ∀ st H0 n I H σ e vs xs e' (Q : L2.St → Hp → Prop), Wr st n I H → Er K st H0 I H σ e → DpAll K I vs xs → tgs ts xs e = some e' →
  (∀ σ', Er K st H0 I H σ' e' → (∀ own : List Nat, (∀ i ∈ sl, i ∈ own) → wipe σ' own = wipe σ own) → Kept e e' σ σ' → Q σ' H) → g vs σ H Q
theorem gds_nil {K : KW} : GDs K gNil [] [] := by
  intro st H0 n I H σ e vs xs e' Q w E hd q k
  cases hd with
  | nil => cases q; exact ⟨rfl, k σ E (fun _ _ => rfl) .refl⟩
  | cons _ _ => cases q
theorem gds_cons {K : KW} {g : TG} {gs : TGs} {t : FG} {ts : List FG} {s1 s2 : List Nat} (h1 : GDo K g t s1) (h2 : GDs K gs ts s2) : GDs K (gCons g gs) (t :: ts) (s1 ++ s2) := by
  intro st H0 n I H σ e vs xs e' Q w E hd q k
  cases hd with
  | nil => cases q
  | cons d1 d2 =>
    rename_i v vs x xs
    unfold tgs at q
    split at q
    · cases q
    · rename_i e1 q1
      refine ⟨v, vs, rfl, h1 st H0 n I H σ e v x e1 _ w E d1 q1 fun σ1 E1 k1 r1 => h2 st H0 n I H σ1 e1 vs xs e' Q w E1 d2 q fun σ2 E2 k2 r2 => k σ2 E2 (fun own ho => ?_) (r1.trans r2)⟩
      rw [k2 own fun i hi => ho i (List.mem_append_right _ hi), k1 own fun i hi => ho i (List.mem_append_left _ hi)]
theorem gd_tup {K : KW} {gs : TGs} {ts : List FG} {sl : List Nat} {m : Nat} (h : GDs K gs ts sl) (hm : ts.length = m) : GDo K (gTup K m gs) (tgT ts) sl := by
  intro st H0 n I H σ e v x e' Q w E hd q k
  unfold tgT at q
  split at q
  · cases hd with
    | tup hs ha =>
      exact ⟨_, _, rfl, ex_sqT w.im.sub hs, by rw [DpAll.len ha, tgs_len q, hm], h st H0 n I H σ e _ _ e' Q w E ha q k⟩
  · cases q
/-! ### comprehensions -/
def tT : FT := fun _ n => some (true, n)
def lcL (tg : FG) (own : List Nat) (t : FT) (f : FE) : List PyData → Ev → Nat → Option (List PyData × Nat)
  | [], _, n => some ([], n)
  | x :: xs, e, n => match tg x (wipeE e own) with
    | none => none
    | some e1 => match t e1 n with
      | none => none
      | some (false, n1) => lcL tg own t f xs e n1
      | some (true, n1) => match f e1 n1 with
        | none => none
        | some (sv, n2) => match sv.take with
          | none => none
          | some y => match lcL tg own t f xs e n2 with
            | none => none
            | some (ys, n3) => some (y :: ys, n3)
def fLc (it : FI) (tg : FG) (own : List Nat) (t : FT) (f : FE) : FE := fun e n => match it e n with
  | none => none
  | some (xs, n1) => if xs.length ≤ big then match lcL tg own t f xs e n1 with
      | none => none
      | some (ys, n2) => some (.cell ys, n2)
    else none
theorem pts_yes {X : Cx} : PTs X [] (tTs X.kw tT) := pts_nil.by fun σ H Q ⟨st, n, H0, I, ev, w, E, b, n', q, k⟩ => by
  cases q
  exact k I H (.refl w)
theorem lc_of {K : KW} {g : TG} {tg : FG} {sl own : List Nat} {it : FI} {t : FT} {f : FE} (hg : GDo K g tg sl) (ho : ∀ i ∈ sl, i ∈ own) (σ : L2.St) (H : Hp) (Q : VK) (h : tE K (fLc it tg own t f) σ H Q) : tLc (tIs K true it) g (tTs K t) (tE K f) own σ H Q := by
  obtain ⟨st, n, H0, I, ev, w, E, sv, n', q, k⟩ := h
  unfold fLc at q
  split at q
  · cases q
  · rename_i xs n1 q1
    split at q
    · rename_i hlen
      split at q
      · cases q
      · rename_i ys n2 q2
        cases q
        refine ⟨st, n, H0, I, ev, w, E, xs, n1, q1, hlen, fun J I1 H1 x1 ⟨G, Y, wk, hG, hY⟩ D hD => ?_⟩
        have hs : D ≠ st := x1.w.ne_st hD
        have iD : I1 D = none := x1.w.ine hD
        have E1 := E.mono x1
        refine lc_it wk (fun i H => ∃ I' m acc zs rs, Xt st m I1 H1 I' H ∧ I' D = none ∧ H D = some (.lst acc) ∧ DpAll K I' acc zs ∧ zs.length ≤ i ∧ lcL tg own t f (xs.drop i) ev m = some (rs, n') ∧ zs ++ rs = ys)
          ⟨I1, n1, [], [], ys, Xt.cell x1.w hD, iD, upd_same, .nil, Nat.zero_le _, q2, rfl⟩ ?_ ?_ ?_
        · rintro i H' hi ⟨I', m, acc, zs, rs, x2, i2, hacc, hd, hl, _, _⟩
          exact hG m I' H' x2.w x2.ii fun _ b o hb e => x2.hh b o hb e
        · rintro i x H' H'' hi ⟨I', m, acc, zs, rs, x2, i2, hacc, hd, hl, q3, q4⟩ y
          obtain ⟨I2, d, e1, x3, kd⟩ := hY m I' H' i x H'' x2.w x2.ii (fun _ b o hb e => x2.hh b o hb e) hi y
          have hdr : xs.drop i = d :: xs.drop (i + 1) := by
            rw [List.drop_eq_getElem_cons hi]
            congr 1
            rw [List.getElem?_eq_getElem hi] at e1
            exact Option.some.inj e1
          rw [hdr] at q3
          unfold lcL at q3
          split at q3
          · cases q3
          · rename_i ev1 p1
            have x23 := x2.trans x3
            have E3 := (E1.mono x23).wipe own
            refine hg st H0 m I2 H'' (wipe σ own) _ x d ev1 _ x3.w E3 kd p1 fun σ2 E4 kw _ => ⟨by rw [kw own ho, wipe_wipe], ?_⟩
            have hacc2 : H'' D = some (.lst acc) := x3.hh D _ hs hacc
            have i3 : I2 D = none := by rw [x3.old D _ hacc]; exact i2
            split at q3
            · cases q3
            · rename_i m1 p2
              refine ⟨st, m, H0, I2, ev1, x3.w, E4, false, m1, p2, fun I4 H4 x4 => ?_⟩
              dsimp only
              rw [if_neg Bool.false_ne_true]
              exact ⟨I4, m1, acc, zs, rs, x23.trans x4, by rw [x4.old D _ hacc2]; exact i3, x4.hh D _ hs hacc2, DpAll.mono (x3.trans x4).ii _ _ hd, Nat.le_succ_of_le hl, q3, q4⟩
            · rename_i m1 p2
              refine ⟨st, m, H0, I2, ev1, x3.w, E4, true, m1, p2, fun I4 H4 x4 => ?_⟩
              dsimp only
              rw [if_pos rfl]
              split at q3
              · cases q3
              · rename_i sv m2 p3
                split at q3
                · cases q3
                · rename_i y' p4
                  split at q3
                  · cases q3
                  · rename_i us m3 p5
                    cases q3
                    refine ⟨st, m1, H0, I4, ev1, x4.w, E4.mono x4, sv, m2, p3, fun v I5 H5 x5 r5 f5 => ?_⟩
                    obtain ⟨I6, x6, s6, k6⟩ := SvR.keep x5 r5 f5 p4
                    have hacc4 : H4 D = some (.lst acc) := x4.hh D _ hs hacc2
                    have hacc5 : H5 D = some (.lst acc) := x6.hh D _ hs hacc4
                    have i4 : I4 D = none := by rw [x4.old D _ hacc2]; exact i3
                    have i6 : I6 D = none := by rw [x6.old D _ hacc4]; exact i4
                    have xx := (x23.trans x4).trans x6
                    have la : acc.length < sizeLine := by
                      rw [DpAll.len hd]
                      have : big < sizeLine := by decide
                      omega
                    refine ⟨acc, hacc5, la, I6, m2, acc ++ [v], zs ++ [y'], us, xx.put hD i6 hs, i6, upd_same, DpAll.app (DpAll.mono ((x3.trans x4).trans x6).ii _ _ hd) (.cons k6 .nil), ?_, p5, ?_⟩
                    · rw [List.length_append, List.length_singleton]
                      omega
                    · rw [List.append_assoc]
                      exact q4
        · rintro H' ⟨I', m, acc, zs, rs, x2, i2, hacc, hd, hl, q3, q4⟩
          rw [List.drop_length] at q3
          unfold lcL at q3
          cases q3
          rw [List.append_nil] at q4
          subst q4
          exact k (.ref D) I' H' (x1.trans x2) ⟨D, acc, rfl, hacc, i2, hs, hd⟩ fun p ep => by rw [← V.ref.inj ep]; exact x1.free hD hs
    · cases q
section
variable {X : Cx} {e : Expr}
theorem e_lc {g : TG} {tg : FG} {sl own : List Nat} {it : FI} {t : FT} {f : FE} (hg : GDo X.kw g tg sl) (ho : ∀ i ∈ sl, i ∈ own) (h : PE X e (tLc (tIs X.kw true it) g (tTs X.kw t) (tE X.kw f) own)) : PE X e (tE X.kw (fLc it tg own t f)) := h.by fun σ H Q q => lc_of hg ho σ H Q q
end
end
end Sb
/-! P4b: comprehensions of two clauses. -/
/-! P5: statements, defs. -/
namespace Sb
open PySem PySem.Spec PyProof.Rows L2
section
variable {X : Cx} {s : Stmt} {ss : List Stmt} {e : Expr} {f g : FE} {fa : FA} {ft : FT} {a b : FS} {K : KW}
def sNx : FS := fun e n => some (.nx, e, n)
def sSeq (a b : FS) : FS := fun e n => match a e n with
  | some (.nx, e1, n1) => b e1 n1
  | r => r
theorem tSs_next {K : KW} : ∀ D σ H, tSs K sNx D σ H → tNext D σ H := fun D σ H ⟨st, n, I0, H0, I, e, x, E, fl, e', n', q, k⟩ => by
  cases q
  exact k σ I H x E (Same.refl _)
theorem b_nil : PSs X [] (tSs X.kw sNx) := pss_nil.by tSs_next
theorem b_cons (h1 : PS X s (tSs X.kw a)) (h2 : PSs X ss (tSs X.kw b)) : PSs X (s :: ss) (tSs X.kw (sSeq a b)) := (pss_cons h1 h2).by fun D σ H ⟨st, n, I0, H0, I, e, x, E, fl, e', n', q, k⟩ => by
  unfold sSeq at q
  split at q
  · rename_i e1 n1 q1
    exact ⟨st, n, I0, H0, I, e, x, E, .nx, e1, n1, q1, fun σ1 I1 H1 x1 E1 s1 => ⟨st, n1, I0, H0, I1, e1, x1, E1, fl, e', n', q, Fin.up s1 k⟩⟩
  · rename_i hne
    refine ⟨st, n, I0, H0, I, e, x, E, fl, e', n', q, ?_⟩
    cases fl with
    | nx => exact absurd q (hne e' n')
    | rt v => exact k
    | bk => exact k
    | ct => exact k
theorem b_one (h1 : PS X s (tSs X.kw a)) : PSs X [s] (tSs X.kw a) := pss_one h1
/-! name = e -/
theorem Sv.own_nb {sv : Sv} (h : sv.own = true) : sv.own = true := h
def sAsg (i : Nat) (f : FE) : FS := fun e n => match f e n with
  | none => none
  | some (sv, n1) => if sv.own = true then some (.nx, e.set i (some sv), n1) else none
theorem s_set {i : Nat} (h : PS X s (tAsg (tE X.kw f) (gName i))) : PS X s (tSs X.kw (sAsg i f)) := h.by fun D σ H ⟨st, n, I0, H0, I, e, x, E, fl, e', n', q, k⟩ => by
  unfold sAsg at q
  split at q
  · cases q
  · rename_i sv n1 q1
    split at q
    · rename_i ho
      cases q
      refine ⟨st, n, H0, I, e, x.w, E, sv, _, q1, fun v I1 H1 x1 r1 f1 => ?_⟩
      exact k _ I1 H1 (x.trans x1) (E.setNew x1 x i r1 f1 (Sv.own_nb ho)) x1.ii
    · cases q
/-- a target of several names = e -/
def sAsgT (tg : FG) (f : FE) : FS := fun e n => match f e n with
  | none => none
  | some (sv, n1) => match sv.take with
    | none => none
    | some x => match tg x e with
      | none => none
      | some e1 => some (.nx, e1, n1)
theorem s_setT {g : TG} {tg : FG} {sl : List Nat} (hg : GDo X.kw g tg sl) (h : PS X s (tAsg (tE X.kw f) g)) : PS X s (tSs X.kw (sAsgT tg f)) := h.by fun D σ H ⟨st, n, I0, H0, I, e, x, E, fl, e', n', q, k⟩ => by
  unfold sAsgT at q
  split at q
  · cases q
  · rename_i sv n1 q1
    split at q
    · cases q
    · rename_i y q2
      split at q
      · cases q
      · rename_i e1 q3
        cases q
        refine ⟨st, n, H0, I, e, x.w, E, sv, _, q1, fun v I1 H1 x1 r1 f1 => ?_⟩
        obtain ⟨I2, x2, _, k2⟩ := SvR.keep x1 r1 f1 q2
        exact hg st H0 _ I2 H1 σ e v y _ _ x2.w (E.mono x2) k2 q3 fun σ' E' _ _ => k σ' I2 H1 (x.trans x2) E' x2.ii
/-- a, b = e1, e2 -/
def sPar (i j : Nat) (f g : FE) : FS := fun e n => match f e n with
  | none => none
  | some (a, n1) => match g e n1 with
    | none => none
    | some (b, n2) => if a.own = true ∧ b.own = true then some (.nx, (e.set i (some a)).set j (some b), n2) else none
theorem s_par2 {i j : Nat} (h : PS X s (tPar i j (tCons (tE X.kw f) (tCons (tE X.kw g) tNil)))) : PS X s (tSs X.kw (sPar i j f g)) := h.by fun D σ H ⟨st, n, I0, H0, I, e, x, E, fl, e', n', q, k⟩ => by
  unfold sPar at q
  split at q
  · cases q
  · rename_i a n1 q1
    split at q
    · cases q
    · rename_i b n2 q2
      split at q
      · rename_i ho
        cases q
        refine ⟨st, n, H0, I, e, x.w, E, a, n1, q1, fun v I1 H1 x1 r1 f1 => ⟨st, n1, H0, I1, e, x1.w, E.mono x1, b, _, q2, fun v2 I2 H2 x2 r2 f2 => ⟨v, v2, rfl, ?_⟩⟩⟩
        have E1 := E.setNew x1 x i r1 f1 (Sv.own_nb ho.1)
        exact k _ I2 H2 ((x.trans x1).trans x2) (E1.setNew x2 (x.trans x1) j r2 f2 (Sv.own_nb ho.2)) (x1.ii.trans x2.ii)
      · cases q
/-! return -/
def sRet (f : FE) : FS := fun e n => match f e n with
  | none => none
  | some (sv, n1) => if sv.own = true then some (.rt sv, e, n1) else none
theorem s_retE (h : PS X s (tRet (tE X.kw f))) : PS X s (tSs X.kw (sRet f)) := h.by fun D σ H ⟨st, n, I0, H0, I, e, x, E, fl, e', n', q, k⟩ => by
  unfold sRet at q
  split at q
  · cases q
  · rename_i sv n1 q1
    split at q
    · cases q
      exact ⟨st, n, H0, I, e, x.w, E, sv, _, q1, fun v I1 H1 x1 r1 f1 => k v I1 H1 (x.trans x1) r1 (Fr.back x r1 f1)⟩
    · cases q
/-- return of a name: a list of one's own goes with it -/
def sRetV (i : Nat) : FS := fun e n => match e[i]? with
  | some (some (.d x)) => some (.rt (.d x), e, n)
  | some (some (.cell xs)) => some (.rt (.cell xs), e, n)
  | _ => none
theorem s_retV {i : Nat} (h : PS X s (tRet (tVar i))) : PS X s (tSs X.kw (sRetV i)) := h.by fun D σ H ⟨st, n, I0, H0, I, e, x, E, fl, e', n', q, k⟩ => by
  unfold sRetV at q
  split at q
  · rename_i y q1
    cases q
    obtain ⟨v, h1, h2, h3⟩ := E.at_ i _ q1
    exact ⟨v, h1, k v I H x h2 trivial⟩
  · rename_i y q1
    cases q
    obtain ⟨v, h1, h2, h3⟩ := E.at_ i _ q1
    exact ⟨v, h1, k v I H x h2 h3⟩
  · cases q
/-! a call for what it does -/
def sDrop (f : FE) : FS := fun e n => match f e n with
  | none => none
  | some (_, n1) => some (.nx, e, n1)
theorem s_drop (h : PS X s (tDrop (tE X.kw f))) : PS X s (tSs X.kw (sDrop f)) := h.by fun D σ H ⟨st, n, I0, H0, I, e, x, E, fl, e', n', q, k⟩ => by
  unfold sDrop at q
  split at q
  · cases q
  · rename_i sv n1 q1
    cases q
    exact ⟨st, n, H0, I, e, x.w, E, sv, _, q1, fun v I1 H1 x1 r1 f1 => k σ I1 H1 (x.trans x1) (E.mono x1) x1.ii⟩
def sNever : FS := fun _ _ => none
theorem s_never : PS X s (tSs X.kw sNever) := ps_never.by fun D σ H ⟨st, n, I0, H0, I, e, x, E, fl, e', n', q, k⟩ => by cases q
/-! if -/
def sIf (t : FT) (a b : FS) : FS := fun e n => match t e n with
  | none => none
  | some (true, n1) => a e n1
  | some (false, n1) => b e n1
theorem s_ite {c : Expr} {sa sb : List Stmt} {pos : Pos} (hc : PT X c (tTs X.kw ft)) (h1 : PSs X sa (tSs X.kw a)) (h2 : PSs X sb (tSs X.kw b)) : PS X (.If c sa sb pos) (tSs X.kw (sIf ft a b)) := (ps_if hc h1 h2).by fun D σ H ⟨st, n, I0, H0, I, e, x, E, fl, e', n', q, k⟩ => by
  unfold sIf at q
  split at q
  · cases q
  · rename_i n1 q1
    refine ⟨st, n, H0, I, e, x.w, E, true, n1, q1, fun I1 H1 x1 => ?_⟩
    dsimp only
    rw [if_pos rfl]
    exact ⟨st, n1, I0, H0, I1, e, x.trans x1, E.mono x1, fl, e', n', q, Fin.up x1.ii k⟩
  · rename_i n1 q1
    refine ⟨st, n, H0, I, e, x.w, E, false, n1, q1, fun I1 H1 x1 => ?_⟩
    dsimp only
    rw [if_neg Bool.false_ne_true]
    exact ⟨st, n1, I0, H0, I1, e, x.trans x1, E.mono x1, fl, e', n', q, Fin.up x1.ii k⟩
/-! lists of one's own are kept from now on -/
def frzE (e : Ev) : List Nat → Ev
  | [] => e
  | i :: is => match (frzE e is)[i]? with
    | some (some (.cell xs)) => (frzE e is).set i (some (.d (.list xs)))
    | some (some (.tab t kvs)) => (frzE e is).set i (some (.ktab t kvs))
    | _ => frzE e is
/-- the thing that slot i holds becomes another one, nothing else does -/
theorem Er.change {st n I0 H0 I H I2 H2 σ e} {i : Nat} {sv sv2 : Sv} {p : Addr} (x : Xt st n I0 H0 I H) (E : Er K st H0 I H σ e) (q : e[i]? = some (some sv)) (l : sv.loose = true) (hp : σ[i]? = some (some (.ref p)))
    (s : Same I I2) (hI : ∀ b, b ≠ p → I2 b = I b) (hH : ∀ b, b ≠ p → H2 b = H b) (r : SvR K st I2 H2 (.ref p) sv2) (o : Own H0 (.ref p) sv2) : Er K st H0 I2 H2 σ (e.set i (some sv2)) := by
  obtain ⟨v, h1, h2, h3⟩ := E.at_ i sv q
  rw [hp] at h1
  cases h1
  have p0 : H0 p = none := by
    cases sv with
    | cell _ => exact h3 p rfl
    | tab _ _ => exact h3 p rfl
    | d _ => cases l
    | bor _ => cases l
    | st => cases l
    | kn _ => cases l
    | btab _ _ => cases l
    | ktab _ _ => cases l
  have li : i < e.length := (List.getElem?_eq_some_iff.mp q).1
  refine ⟨by rw [List.length_set]; exact E.len, fun j sv' qj => ?_, fun j k a b p' hjk q1 q2 l1 l2 q3 => ?_⟩
  · by_cases hj : i = j
    · subst hj
      rw [List.getElem?_set_self li] at qj
      cases qj
      exact ⟨_, hp, r, o⟩
    · rw [List.getElem?_set_ne hj] at qj
      obtain ⟨w, g1, g2, g3⟩ := E.at_ j sv' qj
      refine ⟨w, g1, ?_, g3⟩
      have own_ne : sv'.loose = true → ∀ p2, w = .ref p2 → p2 ≠ p := fun l' p2 e2 z => by
        subst z
        subst e2
        exact E.ap i j sv sv' p2 hj q qj l l' hp g1
      have lent_ne : ∀ p2, (H0 p2).isSome = true → p2 ≠ p := fun p2 z1 z => by
        rw [z, p0] at z1
        cases z1
      cases sv' with
      | d y => exact Dp.mono s _ _ g2
      | cell ys =>
        obtain ⟨p2, us, e2, k1, k2, k3, k4⟩ := g2
        have hne := own_ne rfl p2 e2
        exact ⟨p2, us, e2, by rw [hH p2 hne]; exact k1, by rw [hI p2 hne]; exact k2, k3, DpAll.mono s _ _ k4⟩
      | bor ys =>
        obtain ⟨p2, us, e2, k1, k2, k3, k4⟩ := g2
        have hne := lent_ne p2 (g3 p2 e2)
        exact ⟨p2, us, e2, by rw [hH p2 hne]; exact k1, by rw [hI p2 hne]; exact k2, k3, DpAll.mono s _ _ k4⟩
      | st => exact g2
      | kn u => exact g2
      | tab t kvs =>
        obtain ⟨p2, us, e2, k1, k2, k3, k4⟩ := g2
        have hne := own_ne rfl p2 e2
        exact ⟨p2, us, e2, by rw [hH p2 hne]; exact k1, by rw [hI p2 hne]; exact k2, k3, k4.mono s⟩
      | btab t kvs =>
        obtain ⟨p2, us, e2, k1, k2, k3, k4⟩ := g2
        have hne := lent_ne p2 (g3 p2 e2)
        exact ⟨p2, us, e2, by rw [hH p2 hne]; exact k1, by rw [hI p2 hne]; exact k2, k3, k4.mono s⟩
      | ktab t kvs =>
        obtain ⟨p2, u, e2, k1, k2⟩ := g2
        exact ⟨p2, u, e2, s _ _ k1, k2.mono s⟩
  · have n1 : ∀ (j' : Nat) (c : Sv), (e.set i (some sv2))[j']? = some (some c) → c.loose = true → ∃ c', e[j']? = some (some c') ∧ c'.loose = true := fun j' c h lc => by
      by_cases z : i = j'
      · subst z
        exact ⟨sv, q, l⟩
      · rw [List.getElem?_set_ne z] at h
        exact ⟨c, h, lc⟩
    obtain ⟨z1, m1, o1⟩ := n1 j a q1 l1
    obtain ⟨z2, m2, o2⟩ := n1 k b q2 l2
    exact E.ap j k z1 z2 p' hjk m1 m2 o1 o2 q3
theorem Er.frz1 {st n I0 H0 I H σ e} {i : Nat} {xs : List PyData} (x : Xt st n I0 H0 I H) (E : Er K st H0 I H σ e) (q : e[i]? = some (some (.cell xs))) : ∃ I', Xt st n I0 H0 I' H ∧ Same I I' ∧ Er K st H0 I' H σ (e.set i (some (.d (.list xs)))) := by
  obtain ⟨v, h1, ⟨p, vs, ev, h2, h3, h4, h5⟩, h6⟩ := E.at_ i _ q
  subst ev
  have p0 : H0 p = none := h6 p rfl
  have s1 : Same I (upd I p (.lst vs)) := same_new h3
  exact ⟨_, x.freeze p0 h4 h2, s1, E.change (sv2 := .d (.list xs)) x q rfl h1 s1 (fun b hb => upd_ne hb) (fun _ _ => rfl) (.lst (SqL.of upd_same) (DpAll.mono s1 _ _ h5)) trivial⟩
theorem Er.frz2 {st n I0 H0 I H σ e} {i : Nat} {t : Bool} {kvs : List (PyData × PyData)} (x : Xt st n I0 H0 I H) (E : Er K st H0 I H σ e) (q : e[i]? = some (some (.tab t kvs))) : ∃ I', Xt st n I0 H0 I' H ∧ Same I I' ∧ Er K st H0 I' H σ (e.set i (some (.ktab t kvs))) := by
  obtain ⟨v, h1, ⟨p, o, ev, h2, h3, h4, h5⟩, h6⟩ := E.at_ i _ q
  subst ev
  have p0 : H0 p = none := h6 p rfl
  have s1 : Same I (upd I p (rawO p o)) := same_new h3
  exact ⟨_, x.freezeO p0 h4 h2 rawO_tup, s1, E.change (sv2 := .ktab t kvs) x q rfl h1 s1 (fun b hb => upd_ne hb) (fun _ _ => rfl) ⟨p, o, rfl, upd_same, h5.mono s1⟩ trivial⟩
theorem Er.frz {st n I0 H0 I H σ e} (x : Xt st n I0 H0 I H) (E : Er K st H0 I H σ e) : ∀ is : List Nat, ∃ I', Xt st n I0 H0 I' H ∧ Same I I' ∧ Er K st H0 I' H σ (frzE e is)
  | [] => ⟨I, x, Same.refl _, E⟩
  | i :: is => by
    obtain ⟨I1, x1, t1, E1⟩ := Er.frz x E is
    unfold frzE
    split
    · rename_i xs q
      obtain ⟨I2, x2, t2, E2⟩ := E1.frz1 x1 q
      exact ⟨I2, x2, t1.trans t2, E2⟩
    · rename_i t kvs q
      obtain ⟨I2, x2, t2, E2⟩ := E1.frz2 x1 q
      exact ⟨I2, x2, t1.trans t2, E2⟩
    · exact ⟨I1, x1, t1, E1⟩
def sFrz (is : List Nat) (a : FS) : FS := fun e n => a (frzE e is) n
theorem s_frz {is : List Nat} (h : PS X s (tSs X.kw a)) : PS X s (tSs X.kw (sFrz is a)) := h.by fun D σ H ⟨st, n, I0, H0, I, e, x, E, fl, e', n', q, k⟩ => by
  obtain ⟨I1, x1, t1, E1⟩ := E.frz x is
  exact ⟨st, n, I0, H0, I1, _, x1, E1, fl, e', n', q, Fin.up t1 k⟩
/-! ### lists of one's own -/
def cellAt (e : Ev) (i : Nat) : Option (List PyData) := match e[i]? with
  | some (some (.cell xs)) => some xs
  | _ => none
theorem cellAt_eq {e : Ev} {i : Nat} {xs : List PyData} (h : cellAt e i = some xs) : e[i]? = some (some (.cell xs)) := by
  unfold cellAt at h
  split at h
  · rename_i q; cases h; exact q
  · cases h
/-- the list in slot i becomes another one -/
theorem Er.put {st n I0 H0 I H σ e} {i : Nat} {xs ys : List PyData} {p : Addr} {us : List V} (x : Xt st n I0 H0 I H) (E : Er K st H0 I H σ e) (q : e[i]? = some (some (.cell xs))) (hp : σ[i]? = some (some (.ref p))) (hd : DpAll K I us ys) :
    Xt st n I0 H0 I (upd H p (.lst us)) ∧ Er K st H0 I (upd H p (.lst us)) σ (e.set i (some (.cell ys))) := by
  obtain ⟨v, h1, ⟨p', vs, ev, h2, h3, h4, h5⟩, h6⟩ := E.at_ i _ q
  rw [hp] at h1
  cases h1
  cases ev
  have p0 : H0 p = none := h6 p rfl
  exact ⟨x.put p0 h3 h4, E.change (sv2 := .cell ys) x q rfl hp (Same.refl _) (fun _ _ => rfl) (fun b hb => upd_ne hb) ⟨p, us, rfl, upd_same, h3, h4, hd⟩ h6⟩
def sApp (i : Nat) (f : FE) : FS := fun e n => match f e n with
  | none => none
  | some (sv, n1) => match sv.take, cellAt e i with
    | some y, some xs => if xs.length < big then some (.nx, e.set i (some (.cell (xs ++ [y]))), n1) else none
    | _, _ => none
theorem s_app {i : Nat} (h : PS X s (tDrop (tBM X.K "list" rAppend (tVar i) (tCons (tE X.kw f) tNil)))) : PS X s (tSs X.kw (sApp i f)) := h.by fun D σ H ⟨st, n, I0, H0, I, e, x, E, fl, e', n', q, k⟩ => by
  unfold sApp at q
  split at q
  · cases q
  · rename_i sv n1 q1
    split at q
    · rename_i y xs q2 q3
      split at q
      · rename_i hl
        cases q
        obtain ⟨v, h1, ⟨p, vs, ev, h2, h3, h4, h5⟩, h6⟩ := E.at_ i _ (cellAt_eq q3)
        subst ev
        refine ⟨.ref p, h1, .inl ⟨rfl, _, SqL.of h2⟩, st, n, H0, I, e, x.w, E, sv, _, q1, fun w I1 H1 x1 r1 f1 => ?_⟩
        obtain ⟨I2, x2, _, k2⟩ := SvR.keep x1 r1 f1 q2
        have hp2 := x2.hh p _ h4 h2
        refine ⟨p, vs, w, rfl, rfl, hp2, by rw [DpAll.len h5]; exact Nat.lt_trans hl (by decide), ?_⟩
        obtain ⟨x3, E3⟩ := Er.put (x.trans x2) (E.mono x2) (cellAt_eq q3) h1 (DpAll.app (DpAll.mono x2.ii _ _ h5) (.cons k2 .nil))
        exact k σ I2 _ x3 E3 x2.ii
      · cases q
    · cases q
def sExt (i : Nat) (f : FE) : FS := fun e n => match f e n with
  | none => none
  | some (.cell ys, n1) => (match cellAt e i with
    | some xs => if xs.length + ys.length ≤ big then some (.nx, e.set i (some (.cell (xs ++ ys))), n1) else none
    | none => none)
  | some (.bor ys, n1) => (match cellAt e i with
    | some xs => if xs.length + ys.length ≤ big then some (.nx, e.set i (some (.cell (xs ++ ys))), n1) else none
    | none => none)
  | _ => none
theorem ext_of {D : Ends} {σ H st n n1 I0 H0 I e} {i : Nat} {xs ys : List PyData} {sv : Sv} (x : Xt st n I0 H0 I H) (E : Er K st H0 I H σ e) (q1 : f e n = some (sv, n1)) (hsv : sv = .cell ys ∨ sv = .bor ys) (q3 : cellAt e i = some xs) (hl : xs.length + ys.length ≤ big)
    (k : ∀ σ' I' H', Xt st n1 I0 H0 I' H' → Er K st H0 I' H' σ' (e.set i (some (.cell (xs ++ ys)))) → Same I I' → D.nx σ' H') : tDrop (tBM K "list" rExtend (tVar i) (tCons (tE K f) tNil)) D σ H := by
  obtain ⟨v, h1, ⟨p, vs, ev, h2, h3, h4, h5⟩, h6⟩ := E.at_ i _ (cellAt_eq q3)
  subst ev
  refine ⟨.ref p, h1, .inl ⟨rfl, _, SqL.of h2⟩, st, n, H0, I, e, x.w, E, sv, _, q1, fun w I1 H1 x1 r1 f1 => ?_⟩
  have r2 : ∃ p us, w = .ref p ∧ H1 p = some (.lst us) ∧ I1 p = none ∧ p ≠ st ∧ DpAll K I1 us ys := by
    rcases hsv with z | z <;> (subst z; exact r1)
  obtain ⟨b, us, e2, g1, g2, g3, g4⟩ := r2
  subst e2
  have hp2 := x1.hh p _ h4 h2
  refine ⟨p, b, vs, us, rfl, rfl, hp2, g1, by rw [DpAll.len h5, DpAll.len g4]; exact big_le hl, ?_⟩
  obtain ⟨x3, E3⟩ := Er.put (x.trans x1) (E.mono x1) (cellAt_eq q3) h1 (DpAll.app (DpAll.mono x1.ii _ _ h5) g4)
  exact k σ I1 _ x3 E3 x1.ii
theorem s_ext {i : Nat} (h : PS X s (tDrop (tBM X.K "list" rExtend (tVar i) (tCons (tE X.kw f) tNil)))) : PS X s (tSs X.kw (sExt i f)) := h.by fun D σ H ⟨st, n, I0, H0, I, e, x, E, fl, e', n', q, k⟩ => by
  unfold sExt at q
  split at q
  · cases q
  · rename_i ys n1 q1
    split at q
    · rename_i xs q3
      split at q
      · rename_i hl
        cases q
        exact ext_of x E q1 (.inl rfl) q3 hl k
      · cases q
    · cases q
  · rename_i ys n1 q1
    split at q
    · rename_i xs q3
      split at q
      · rename_i hl
        cases q
        exact ext_of x E q1 (.inr rfl) q3 hl k
      · cases q
    · cases q
  · cases q
/-- a.append(b.pop(e)) -/
def sAppPop (i j : Nat) (f : FE) : FS := fun e n => match f e n with
  | some (.d (.int c), n1) => (match cellAt e i, cellAt e j with
    | some xs, some ys => (match seqIndex? c ys.length with
      | some k => (match ys[k]? with
        | some y => if i ≠ j ∧ xs.length < big ∧ smallI c = true then some (.nx, (e.set j (some (.cell (ys.eraseIdx k)))).set i (some (.cell (xs ++ [y]))), n1) else none
        | none => none)
      | none => none)
    | _, _ => none)
  | _ => none
theorem DpAll.erase {I : Hp} : ∀ {vs : List V} {ds : List PyData} (k : Nat), DpAll K I vs ds → DpAll K I (vs.eraseIdx k) (ds.eraseIdx k)
  | [], _, _, h => by cases h; exact .nil
  | _ :: _, _, 0, h => by
    cases h with
    | cons _ h2 => exact h2
  | _ :: _, _, k + 1, h => by
    cases h with
    | cons h1 h2 => exact .cons h1 (DpAll.erase k h2)
theorem s_appPop {i j : Nat} (h : PS X s (tDrop (tBM X.K "list" rAppend (tVar i) (tCons (tBM X.K "list" rPopAt (tVar j) (tCons (tE X.kw f) tNil)) tNil)))) : PS X s (tSs X.kw (sAppPop i j f)) := h.by fun D σ H ⟨st, n, I0, H0, I, e, x, E, fl, e', n', q, k⟩ => by
  unfold sAppPop at q
  split at q
  · rename_i c n1 q1
    split at q
    · rename_i xs ys q3 q4
      split at q
      · rename_i m q5
        split at q
        · rename_i y q6
          split at q
          · rename_i hc
            obtain ⟨hij, hl, hs⟩ := hc
            cases q
            obtain ⟨v, h1, ⟨p, vs, ev, h2, h3, h4, h5⟩, h6⟩ := E.at_ i _ (cellAt_eq q3)
            obtain ⟨v', g1, ⟨p', us, ev', g2, g3, g4, g5⟩, g6⟩ := E.at_ j _ (cellAt_eq q4)
            subst ev
            subst ev'
            have hpp : p ≠ p' := fun z => E.ap i j (.cell xs) (.cell ys) p hij (cellAt_eq q3) (cellAt_eq q4) rfl rfl h1 (by rw [z]; exact g1)
            refine ⟨.ref p, h1, .inl ⟨rfl, _, SqL.of h2⟩, .ref p', g1, .inl ⟨rfl, _, SqL.of g2⟩, st, n, H0, I, e, x.w, E, _, _, q1, fun w I1 H1 x1 r1 f1 => ?_⟩
            cases r1
            have g2' := x1.hh p' _ g4 g2
            have h2' := x1.hh p _ h4 h2
            have g5' := DpAll.mono x1.ii _ _ g5
            have h5' := DpAll.mono x1.ii _ _ h5
            obtain ⟨u, eu, ku⟩ := DpAll.got g5' q6
            refine ⟨p', us, c, m, u, rfl, rfl, g2', ?_, ?_, by rw [DpAll.len g5]; exact q5, eu, ?_⟩
            · have := (small_of hs).1; omega
            · have := (small_of hs).2; omega
            · have E1 := E.mono x1
              have xx := x.trans x1
              obtain ⟨x2, E2⟩ := Er.put xx E1 (cellAt_eq q4) g1 (DpAll.erase m g5')
              have h2'' : upd H1 p' (.lst (us.eraseIdx m)) p = some (.lst vs) := by rw [upd_ne hpp]; exact h2'
              refine ⟨p, vs, u, rfl, rfl, h2'', by rw [DpAll.len h5]; exact Nat.lt_trans hl (by decide), ?_⟩
              have q3' : (e.set j (some (.cell (ys.eraseIdx m))))[i]? = some (some (.cell xs)) := by rw [List.getElem?_set_ne (Ne.symm hij)]; exact cellAt_eq q3
              obtain ⟨x3, E3⟩ := Er.put x2 E2 q3' h1 (DpAll.app h5' (.cons ku .nil))
              exact k σ I1 _ x3 E3 x1.ii
          · cases q
        · cases q
      · cases q
    · cases q
  · cases q
/-- the state of draws grows -/
def sDraw (i : Nat) : FS := fun e n => match e[i]? with
  | some (some .st) => if n < big then some (.nx, e, n + 1) else none
  | _ => none
theorem st_draw {i : Nat} (h : PS X s (tDrop (tBM X.K "list" rAppend (tVar i) (tCons (tC (.int 0)) tNil)))) : PS X s (tSs X.kw (sDraw i)) := h.by fun D σ H ⟨st, n, I0, H0, I, e, x, E, fl, e', n', q, k⟩ => by
  unfold sDraw at q
  split at q
  · rename_i q1
    split at q
    · rename_i hl
      cases q
      obtain ⟨v, h1, h2, _⟩ := E.at_ i _ q1
      obtain ⟨rfl, _⟩ := h2
      have hs := x.w.lst (Nat.le_of_lt hl)
      refine ⟨.ref st.a, h1, .inl ⟨rfl, _, SqL.of hs⟩, st.a, _, .int 0, rfl, rfl, hs, by rw [List.length_replicate]; exact Nat.lt_trans hl (by decide), ?_⟩
      exact k σ I _ (x.trans (Xt.draw x.w hl)) (E.mono (Xt.draw x.w hl)) (Same.refl _)
    · cases q
  · cases q
/-! len, of the state too -/
def lenS (fa : FA) : FE := fun e n => match fa e n with
  | some ([.st], n1) => if n1 ≤ big then some (.d (.int n1), n1) else none
  | some (as, n1) => (match see1 lenG as with
    | some r => some (r, n1)
    | none => none)
  | none => none
theorem e_len {e0 : Expr} (h : PE X e0 (tCB (rLenA X.kw) (tAs X.kw fa))) : PE X e0 (tE X.kw (lenS fa)) := h.by fun σ H Q ⟨st, n, H0, I, ev, w, E, sv, n', q, k⟩ => by
  unfold lenS at q
  split at q
  · rename_i n1 q1
    split at q
    · rename_i hb
      cases q
      refine ⟨st, n, H0, I, ev, w, E, _, _, q1, fun vs I1 H1 x1 r1 => ?_⟩
      cases r1 with
      | cons h1 _ h2 =>
        cases h2
        obtain ⟨rfl, _⟩ := h1
        exact .inl ⟨st.a, _, rfl, .inl (SqL.of (x1.w.lst hb)), by rw [List.length_replicate]; exact k _ I1 H1 x1 (.int _) trivial⟩
    · cases q
  · rename_i as n1 _ q1
    split at q
    · rename_i rr q2
      cases q
      exact ⟨st, n, H0, I, ev, w, E, as, _, q1, fun vs I1 H1 x1 r1 => cd_lenA st _ I1 H1 vs as sv Q x1.w r1 q2 fun v I2 H2 x2 r2 f2 => k v I2 H2 (x1.trans x2) r2 (Fr.back x1 r2 f2)⟩
    · cases q
  · cases q
end
end Sb
/-! P6: loops, defs, the law. -/
namespace Sb
open PySem PySem.Spec PyProof.Rows L2
section
variable {X : Cx} {s : Stmt} {ss : List Stmt} {e : Expr} {f g : FE} {fa : FA} {ft : FT} {a b : FS} {K : KW}
def forL (tg : FG) (wp : List Nat) (body : FS) : List PyData → Ev → Nat → Option (Fl × Ev × Nat)
  | [], e, n => some (.nx, e, n)
  | x :: xs, e, n => match tg x e with
    | none => none
    | some e1 => match body e1 n with
      | none => none
      | some (.nx, e2, n2) => forL tg wp body xs (wipeE e2 wp) n2
      | some (.ct, e2, n2) => forL tg wp body xs (wipeE e2 wp) n2
      | some (.bk, e2, n2) => some (.nx, wipeE e2 wp, n2)
      | some (.rt v, e2, n2) => some (.rt v, e2, n2)
def sFor (it : FI) (tg : FG) (wp : List Nat) (body : FS) : FS := fun e n => match it e n with
  | none => none
  | some (xs, n1) => if xs.length ≤ big then forL tg wp body xs e n1 else none
theorem s_for {g : TG} {tg : FG} {sl wp : List Nat} {it : FI} (hg : GDo X.kw g tg sl) (h : PS X s (tFor (tIs X.kw false it) g (tSs X.kw a))) : PS X s (tSs X.kw (sFor it tg wp a)) := h.by fun D σ H ⟨st, n, I0, H0, I, e, x, E, fl, e', n', q, k⟩ => by
  unfold sFor at q
  split at q
  · cases q
  · rename_i xs n1 q1
    split at q
    · rename_i hl
      refine ⟨st, n, H0, I, e, x.w, E, xs, n1, q1, hl, fun J I1 H1 x1 ⟨G, Y, wk, hG, hY⟩ => ?_⟩
      refine for_it wk (fun i σ H => ∃ I' m ev, Xt st m I0 H0 I' H ∧ Er X.kw st H0 I' H σ ev ∧ Same I1 I' ∧ forL tg wp a (xs.drop i) ev m = some (fl, e', n'))
        ⟨I1, n1, e, x.trans x1, E.mono x1, Same.refl _, q⟩ ?_ ?_ ?_
      · rintro i σ' H' _ ⟨I', m, ev, x2, E2, s2, _⟩
        exact hG m I' H' x2.w s2 (fun z => nomatch z)
      · rintro i y σ' H' H'' hi ⟨I', m, ev, x2, E2, s2, q2⟩ yy
        obtain ⟨I2, d, e1, x3, kd⟩ := hY m I' H' i y H'' x2.w s2 (fun z => nomatch z) hi yy
        have hdr : xs.drop i = d :: xs.drop (i + 1) := by
          rw [List.drop_eq_getElem_cons hi]
          congr 1
          rw [List.getElem?_eq_getElem hi] at e1
          exact Option.some.inj e1
        rw [hdr] at q2
        unfold forL at q2
        split at q2
        · cases q2
        · rename_i ev1 p1
          refine hg st H0 m I2 H'' σ' ev y d ev1 _ x3.w (E2.mono x3) kd p1 fun σ2 E4 _ _ => ?_
          have x23 := x2.trans x3
          split at q2
          · cases q2
          · rename_i ev2 m2 p2
            exact ⟨st, m, I0, H0, I2, ev1, x23, E4, .nx, ev2, m2, p2, fun σ5 I5 H5 x5 E5 s5 => ⟨I5, m2, _, x5, E5.wipeE wp, (s2.trans x3.ii).trans s5, q2⟩⟩
          · rename_i ev2 m2 p2
            exact ⟨st, m, I0, H0, I2, ev1, x23, E4, .ct, ev2, m2, p2, fun σ5 I5 H5 x5 E5 s5 => ⟨I5, m2, _, x5, E5.wipeE wp, (s2.trans x3.ii).trans s5, q2⟩⟩
          · rename_i ev2 m2 p2
            cases q2
            exact ⟨st, m, I0, H0, I2, ev1, x23, E4, .bk, ev2, _, p2, fun σ5 I5 H5 x5 E5 s5 => k σ5 I5 H5 x5 (E5.wipeE wp) ((x1.ii.trans (s2.trans x3.ii)).trans s5)⟩
          · rename_i v ev2 m2 p2
            cases q2
            exact ⟨st, m, I0, H0, I2, ev1, x23, E4, .rt v, _, _, p2, fun w I5 H5 x5 r5 f5 => k w I5 H5 x5 r5 f5⟩
      · rintro σ' H' ⟨I', m, ev, x2, E2, s2, q2⟩
        rw [List.drop_length] at q2
        unfold forL at q2
        cases q2
        exact k σ' I' H' x2 E2 (x1.ii.trans s2)
    · cases q
/-! while: at most so many turns -/
def whL (t : FT) (wp : List Nat) (body : FS) : Nat → Ev → Nat → Option (Fl × Ev × Nat)
  | 0, _, _ => none
  | j + 1, e, n => match t e n with
    | none => none
    | some (false, n1) => some (.nx, e, n1)
    | some (true, n1) => match body e n1 with
      | none => none
      | some (.nx, e2, n2) => whL t wp body j (wipeE e2 wp) n2
      | some (.ct, e2, n2) => whL t wp body j (wipeE e2 wp) n2
      | some (.bk, e2, n2) => some (.nx, wipeE e2 wp, n2)
      | some (.rt v, e2, n2) => some (.rt v, e2, n2)
def sWhile (t : FT) (wp : List Nat) (body : FS) (fuel : Nat) : FS := fun e n => whL t wp body fuel e n
theorem s_while {wp : List Nat} {fuel : Nat} (h : PS X s (tWhile (tTs X.kw ft) (tSs X.kw a))) : PS X s (tSs X.kw (sWhile ft wp a fuel)) := h.by fun D σ H ⟨st, n, I0, H0, I, e, x, E, fl, e', n', q, k⟩ => by
  unfold sWhile at q
  refine ⟨fun j σ H => ∃ I' m ev, Xt st m I0 H0 I' H ∧ Er X.kw st H0 I' H σ ev ∧ Same I I' ∧ whL ft wp a j ev m = some (fl, e', n'), ⟨fuel, I, n, e, x, E, Same.refl _, q⟩, ?_⟩
  rintro j σ1 H1 ⟨I1, m, ev, x1, E1, s1, q1⟩
  cases j with
  | zero => unfold whL at q1; cases q1
  | succ j =>
    unfold whL at q1
    split at q1
    · cases q1
    · rename_i m1 p1
      cases q1
      refine ⟨st, m, H0, I1, _, x1.w, E1, false, _, p1, fun I2 H2 x2 => ?_⟩
      dsimp only
      rw [if_neg Bool.false_ne_true]
      exact k σ1 I2 H2 (x1.trans x2) (E1.mono x2) (s1.trans x2.ii)
    · rename_i m1 p1
      refine ⟨st, m, H0, I1, ev, x1.w, E1, true, m1, p1, fun I2 H2 x2 => ?_⟩
      dsimp only
      rw [if_pos rfl]
      refine ⟨fun σ' H' => ∃ I' m ev, Xt st m I0 H0 I' H' ∧ Er X.kw st H0 I' H' σ' ev ∧ Same I I' ∧ whL ft wp a j ev m = some (fl, e', n'), fun σ' H' z => ⟨j, Nat.lt_succ_self _, z⟩, ?_⟩
      have x12 := x1.trans x2
      have E2 := E1.mono x2
      have s2 := s1.trans x2.ii
      split at q1
      · cases q1
      · rename_i ev2 m2 p2
        exact ⟨st, m1, I0, H0, I2, ev, x12, E2, .nx, ev2, m2, p2, fun σ5 I5 H5 x5 E5 s5 => ⟨I5, m2, _, x5, E5.wipeE wp, s2.trans s5, q1⟩⟩
      · rename_i ev2 m2 p2
        exact ⟨st, m1, I0, H0, I2, ev, x12, E2, .ct, ev2, m2, p2, fun σ5 I5 H5 x5 E5 s5 => ⟨I5, m2, _, x5, E5.wipeE wp, s2.trans s5, q1⟩⟩
      · rename_i ev2 m2 p2
        cases q1
        exact ⟨st, m1, I0, H0, I2, ev, x12, E2, .bk, ev2, _, p2, fun σ5 I5 H5 x5 E5 s5 => k σ5 I5 H5 x5 (E5.wipeE wp) (s2.trans s5)⟩
      · rename_i v ev2 m2 p2
        cases q1
        exact ⟨st, m1, I0, H0, I2, ev, x12, E2, .rt v, _, _, p2, fun w I5 H5 x5 r5 f5 => k w I5 H5 x5 r5 f5⟩
end
/-! ### defs -/
def argsE (N np : Nat) (as : List Sv) : Ev := as.map some ++ List.replicate (N - np) none
def runF (N np : Nat) (body : FS) : FF := fun as n => if as.length = np then match body (argsE N np as) n with
    | some (.nx, _, n') => some (.d .none, n')
    | some (.rt v, _, n') => some (v, n')
    | _ => none
  else none
section
variable {K : KW}
theorem argsR_get {st I H} : ∀ {vs : List V} {as : List Sv} {i : Nat} {sv : Sv}, ArgsR K st I H vs as → as[i]? = some sv → ∃ v, vs[i]? = some v ∧ SvR K st I H v sv ∧ sv.loose = false
  | _, _, _, _, .nil, h => by simp at h
  | _, _, 0, sv, .cons h1 h2 h3, h => by
    simp at h
    subst h
    exact ⟨_, rfl, h1, h2⟩
  | _, _, i + 1, sv, .cons h1 h2 h3, h => by
    obtain ⟨v, g⟩ := argsR_get (i := i) h3 (by simpa using h)
    exact ⟨v, by simpa using g⟩
theorem er_start {st : Stt} {I H : Hp} {N : List Str} {vs : List V} {as : List Sv} {np : Nat} (ra : ArgsR K st I H vs as) (hn : as.length = np) : Er K st H I H (L2.start N vs) (argsE N.length np as) := by
  have hl := ra.len
  have gone : ∀ (i : Nat) (sv : Sv), (argsE N.length np as)[i]? = some (some sv) → i < as.length ∧ as[i]? = some sv := fun i sv h => by
    unfold argsE at h
    by_cases hi : i < as.length
    · rw [List.getElem?_append_left (by simpa using hi), List.getElem?_map] at h
      cases q : as[i]? with
      | none => rw [q] at h; cases h
      | some z => rw [q] at h; cases h; exact ⟨hi, rfl⟩
    · rw [List.getElem?_append_right (by simpa using hi), List.getElem?_replicate] at h
      split at h <;> cases h
  refine ⟨?_, fun i sv h => ?_, fun i j xs ys p _ h _ lo _ _ => ?_⟩
  · unfold L2.start argsE
    rw [List.length_append, List.length_append, List.length_map, List.length_map, List.length_replicate, List.length_replicate]
    omega
  · obtain ⟨hi, e⟩ := gone i sv h
    obtain ⟨v, g1, g2, g3⟩ := argsR_get ra e
    refine ⟨v, ?_, g2, ?_⟩
    · unfold L2.start
      rw [List.getElem?_append_left (by rw [List.length_map, hl]; exact hi), List.getElem?_map, g1]
      rfl
    · cases sv with
      | d _ => trivial
      | cell xs => cases g3
      | tab _ _ => cases g3
      | kn _ => trivial
      | ktab _ _ => trivial
      | btab t kvs =>
        obtain ⟨p, us, e1, h1, _⟩ := g2
        intro p' e'
        have : p' = p := V.ref.inj (e'.symm.trans e1)
        rw [this, h1]
        rfl
      | bor xs =>
        obtain ⟨p, us, e1, h1, _⟩ := g2
        intro p' e'
        have : p' = p := V.ref.inj (e'.symm.trans e1)
        rw [this, h1]
        rfl
      | st => trivial
  · obtain ⟨_, e⟩ := gone i _ h
    obtain ⟨_, _, _, g3⟩ := argsR_get ra e
    rw [g3] at lo
    cases lo
end
section
variable {P : Program} {w : World} {K : PySem.W.Frag} {mg : Str → Option Value} {base : Heap}
theorem fn_pi {x qual : Str} {st : Stmt} {f : Addr} {fd : FuncData} {N ps : List Str} {k : Nat} {body : FS} (F : Fun K x qual st f fd) (S : FnScope N ps (defScope st))
    (hb : ∀ (cdv : Value) (A : Around) (outer : List Env) (s : Shared) (H : Hp) (E : XK), Room k (A.deeper (envOfC qual (defScope st) s.heap.objs.size f cdv)) → PSs (cxOf CX0 P w K mg base N qual (defScope st) f cdv A outer s H E).nox (defBody st) (tSs ⟨K, P, w⟩ body)) :
    FnOk P w K mg base CX0 (k + 1) f fd ps (spF ⟨K, P, w⟩ ps.length (runF N.length ps.length body)) := by
  refine F.ok S (fun vs H Q E h => h.1) (fun cdv A outer s H vs Q E hr h => ⟨_, hb cdv A outer s H E hr, ?_⟩)
  obtain ⟨_, stt, n, I, as, w1, ra, sv, n', q, k⟩ := h
  unfold runF at q
  split at q
  · rename_i hn
    split at q
    · rename_i e' m q1
      cases q
      exact ⟨stt, n, I, H, I, _, .refl w1, er_start ra hn, .nx, e', _, q1, fun σ' I' H' x' _ _ => k .non I' H' x' .non trivial⟩
    · rename_i v e' m q1
      cases q
      exact ⟨stt, n, I, H, I, _, .refl w1, er_start ra hn, .rt _, e', _, q1, fun v I' H' x' r' f' => k v I' H' x' r' f'⟩
    · cases q
  · cases q
/-! ### the law -/
def scriptD (ns : List Int) : PyData := .list (ns.map PyData.int)
def spLaw (K : PySem.W.Frag) : Sp := fun vs H Q _ => ∃ (a : Addr) (ns : List Int), vs = [.ref a] ∧ Only H ∧ SqL K H a (ns.map V.int) ∧ ns.length ≤ 63 ∧ ∀ H', Q (.bl true) H'
theorem law_pi {x qual : Str} {st : Stmt} {f : Addr} {fd : FuncData} {N : List Str} {k i : Nat} {body : FS} (F : Fun K x qual st f fd) (S : FnScope N ["_law_script"] (defScope st)) (hi : i ≠ 0) (hN : 1 ≤ N.length)
    (hm : ∀ ns : List Int, ns.length ≤ 63 → ∃ e' n', body ((argsE N.length 1 [.d (scriptD ns)]).set i (some .st)) 0 = some (.rt (.d (.bool true)), e', n'))
    (hb : ∀ (cdv : Value) (A : Around) (outer : List Env) (s : Shared) (H : Hp) (E : XK), Room k (A.deeper (envOfC qual (defScope st) s.heap.objs.size f cdv)) → PSs (cxOf CX0 P w K mg base N qual (defScope st) f cdv A outer s H E).nox (defBody st) (tSeq (tAsg (tLst tNil) (gName i)) (tSs ⟨K, P, w⟩ body))) :
    FnOk P w K mg base CX0 (k + 1) f fd ["_law_script"] (spLaw K) := by
  refine F.ok S (fun vs H Q E h => ?_) (fun cdv A outer s H vs Q E hr h => ⟨_, hb cdv A outer s H E hr, ?_⟩)
  · obtain ⟨a, ns, rfl, _⟩ := h
    rfl
  · obtain ⟨a, ns, rfl, hO, hS, hl, q⟩ := h
    refine ⟨Nat.zero_le _, fun p hp => ?_⟩
    obtain ⟨e', n', q1⟩ := hm ns hl
    have W : Wr ⟨p, ⟨K, P, w⟩⟩ 0 H (upd H p (.lst [])) := ⟨⟨same_new hp, fun b xs e => by
      by_cases z : b = p
      · subst z
        rw [upd_same] at e
        cases e
      · rw [upd_ne z] at e
        exact e⟩, hp, ⟨_, upd_same, StS.of (Nat.zero_le _)⟩⟩
    have hd : Dp K H (.ref a) (scriptD ns) := .lst hS (DpAll.ints ns)
    have ra : ArgsR ⟨K, P, w⟩ ⟨p, ⟨K, P, w⟩⟩ H (upd H p (.lst [])) [.ref a] [.d (scriptD ns)] := .cons hd rfl .nil
    have E0 := er_start (N := N) ra (np := 1) rfl
    have E1 : Er ⟨K, P, w⟩ ⟨p, ⟨K, P, w⟩⟩ (upd H p (.lst [])) H (upd H p (.lst [])) ((L2.start N [.ref a]).set i (some (.ref p))) ((argsE N.length 1 [.d (scriptD ns)]).set i (some .st)) := E0.set i (sv := .st) ⟨rfl, rfl⟩ trivial (fun _ _ _ z => nomatch z)
    exact ⟨⟨p, ⟨K, P, w⟩⟩, 0, H, _, H, _, .refl W, E1, .rt _, e', n', q1, fun v I' H' x' r' f' => by cases r'; exact q H'⟩
end
end Sb
namespace Sb
open PySem PySem.Spec PyProof.Rows L2
/-! ### sets of tuples of texts and ints: the small questions (begun) -/
section
variable {P : Program} {w : World} {A : Around} {E : Value → Shared → Prop} {s : Shared}
abbrev MT (P : Program) (w : World) (h : Heap) (k : List Key) (b : Addr) : Prop := IsTupleKey (mixKind P w) h k b
/-! ### the set, and the search in it -/
def mh (P : Program) (w : World) (k : List Key) : Int := tupleKeyHash (mixKind P w) k
def entX (P : Program) (w : World) (q : Addr × List Key) : Int × Value := (mh P w q.2, .ref q.1)
structure SX (P : Program) (w : World) (h : Heap) (a : Addr) (L : List (Addr × List Key)) (es : Array (Int × Value)) (ep : Nat) (t : SetTable) : Prop where
  here : ∃ o, h.get? a = some o ∧ o.ExactSet ∧ o.data = .set es ep t
  ents : es.toList = L.map (entX P w)
  tab : TabOk t (L.map fun q => mh P w q.2)
  once : (L.map Prod.snd).Nodup
  keys : ∀ q ∈ L, MT P w h q.2 q.1
  led : w.params.followText "set-order" = true ∨ t.led = true
  room : L.length * 5 < t.mask * 3
  few : L.length < 64
variable {a : Addr} {L : List (Addr × List Key)} {es : Array (Int × Value)} {ep : Nat} {t : SetTable}
theorem SX.size (R : SX P w s.heap a L es ep t) : es.size = L.length := by
  rw [← Array.length_toList, R.ents, List.length_map]
theorem SX.at (R : SX P w s.heap a L es ep t) {i : Nat} {q : Addr × List Key} (h : L[i]? = some q) : es[i]? = some (entX P w q) := by
  rw [← Array.getElem?_toList, R.ents, List.getElem?_map, h]
  rfl
/-! ### the table laid anew -/
/-! ### adding -/
/-! ### a whole list of them -/
structure Seen (ks : List (Addr × List Key)) (i : Nat) (L : List (Addr × List Key)) : Prop where
  sub : ∀ q ∈ L, q ∈ ks
  all : ∀ j p, j < i → ks[j]? = some p → p.2 ∈ L.map Prod.snd
  len : L.length ≤ i
theorem Seen.next {ks L : List (Addr × List Key)} {i : Nat} {p : Addr × List Key} (g : Seen ks i L) (h : ks[i]? = some p) (m : p.2 ∈ L.map Prod.snd) : Seen ks (i + 1) L :=
  ⟨g.sub, fun j q hj e => by
    rcases Nat.lt_succ_iff_lt_or_eq.mp hj with l | rfl
    · exact g.all j q l e
    · rw [h] at e
      cases e
      exact m, Nat.le_succ_of_le g.len⟩
theorem Seen.put {ks L L' : List (Addr × List Key)} {i : Nat} {p : Addr × List Key} (g : Seen ks i L) (h : ks[i]? = some p) (pm : L'.Perm (p :: L)) : Seen ks (i + 1) L' := by
  have mm : ∀ k, k ∈ L'.map Prod.snd ↔ k = p.2 ∨ k ∈ L.map Prod.snd := fun k => by rw [(pm.map Prod.snd).mem_iff, List.map_cons, List.mem_cons]
  refine ⟨fun q hq => ?_, fun j q hj e => (mm _).mpr ?_, by rw [pm.length_eq]; exact Nat.succ_le_succ g.len⟩
  · rcases List.mem_cons.mp (pm.mem_iff.mp hq) with rfl | hq
    · exact List.mem_of_getElem? h
    · exact g.sub q hq
  · rcases Nat.lt_succ_iff_lt_or_eq.mp hj with l | rfl
    · exact .inr (g.all j q l e)
    · rw [h] at e
      cases e
      exact .inl rfl
end
end Sb
/-! P7: a module's dict of ints, a written dict asked at once, list(range), sorted(set(..)). -/
namespace Sb
open PySem PySem.Spec PyProof.Rows L2
section
variable {X : Cx} {e : Expr} {f g : FE} {fa : FA}
/-! ### a module's dict of texts to ints -/
def fInM (neg : Bool) (m : List (Str × Int)) (f : FE) : FE := fun e n => match f e n with
  | some (.d (.str z), n1) => some (.d (.bool ((lookM m z).isSome != neg)), n1)
  | _ => none
def fIxM (m : List (Str × Int)) (f : FE) : FE := fun e n => match f e n with
  | some (.d (.str z), n1) => (match lookM m z with
    | some i => some (.d (.int i), n1)
    | none => none)
  | _ => none
theorem e_ixM {p : Addr} {m : List (Str × Int)} (D : KDm X.K X.w p m) (h : PE X e (tOp (rIxDm X.K X.w) (tC (.ref p)) (tE X.kw f))) : PE X e (tE X.kw (fIxM m f)) := h.by fun σ H Q ⟨st, n, H0, I, ev, w, E, sv, n', q, k⟩ => by
  unfold fIxM at q
  split at q
  · rename_i z n1 q1
    split at q
    · rename_i i q2
      cases q
      refine ⟨st, n, H0, I, ev, w, E, _, _, q1, fun v I1 H1 x1 r1 _ => ?_⟩
      cases r1
      exact ⟨p, z, m, i, rfl, rfl, D, q2, k _ I1 H1 x1 (.int _) trivial⟩
    · cases q
  · cases q
/-! ### {..}.get(key, other) -/
theorem Xt.other {st n I H p o} (w : Wr st n I H) (hp : H p = none) (ho : ∀ xs, o ≠ .tup xs) : Xt st n I H I (upd H p o) := by
  have hs := w.ne_st hp
  refine ⟨⟨⟨fun b x h => ?_, fun b xs h => ?_⟩, w.ist, w.up (Same.refl _) fun o h => by rw [upd_ne hs.symm]; exact h⟩, Same.refl _, fun b u _ h => same_new hp _ _ h, fun _ _ _ => rfl⟩
  · exact same_new hp _ _ (w.im.sub _ _ h)
  · by_cases z : b = p
    · subst z
      rw [upd_same] at h
      exact absurd (Option.some.inj h) (ho xs)
    · rw [upd_ne z] at h
      exact w.im.tup _ _ h
def litT (m : List (Str × Int)) : List (TE × TE) := m.map fun p => (tC (.str p.1), tC (.int p.2))
def litKV (m : List (Str × Int)) : List (Key × V) := m.map fun p => (Sum.inr p.1, V.int p.2)
theorem lit_pairs : ∀ (m : List (Str × Int)) (σ : L2.St) (H : Hp) (Q : List (V × V) → Hp → Prop), Q ((litKV m).map fun kv => (kV kv.1, kv.2)) H → tPairs (litT m) σ H Q
  | [], _, _, _, h => h
  | p :: m, σ, H, Q, h => lit_pairs m σ H (fun ps H' => Q ((V.str p.1, V.int p.2) :: ps) H') h
def fGetLit (m : List (Str × Int)) (f g : FE) : FE := fun e n => match f e n with
  | some (.d (.str z), n1) => (match g e n1 with
    | some (.d (.int y), n2) => if m.length ≤ 15 then (match valV (mergeK [] (litKV m)) (Sum.inr z) with
        | some (.int i) => some (.d (.int i), n2)
        | none => some (.d (.int y), n2)
        | _ => none) else none
    | _ => none)
  | _ => none
theorem e_getLit {m : List (Str × Int)} (h : PE X e (tDGet2 (tDisp (litT m)) (tE X.kw f) (tE X.kw g))) : PE X e (tE X.kw (fGetLit m f g)) := h.by fun σ H Q ⟨st, n, H0, I, ev, w, E, sv, n', q, k⟩ => by
  unfold fGetLit at q
  split at q
  · rename_i z n1 q1
    split at q
    · rename_i y n2 q2
      split at q
      · rename_i hl
        intro p hp
        refine lit_pairs m σ _ _ ⟨upd_same, litKV m, rfl, by unfold litKV; rw [List.length_map]; exact hl, ?_⟩
        rw [upd_upd]
        have x0 : Xt st n I H I (upd H p (.dK (mergeK [] (litKV m)))) := Xt.other w hp (fun _ z => nomatch z)
        refine ⟨p, rfl, .inl ⟨_, .inl upd_same⟩, ?_⟩
        have hs := w.ne_st hp
        refine ⟨st, n, H0, I, ev, x0.w, E.mono x0, _, n1, q1, fun v I1 H1 x1 r1 _ => ⟨st, n1, H0, I1, ev, x1.w, (E.mono x0).mono x1, _, n2, q2, fun v2 I2 H2 x2 r2 _ => ?_⟩⟩
        cases r1
        cases r2
        have hd : H2 p = some (.dK (mergeK [] (litKV m))) := x2.hh _ _ hs (x1.hh _ _ hs upd_same)
        refine ⟨valV (mergeK [] (litKV m)) (Sum.inr z), DGet.k (k := Sum.inr z) hd, ?_⟩
        have xx := (x0.trans x1).trans x2
        split at q
        · rename_i i q3
          cases q
          rw [q3]
          exact k _ I2 H2 xx (.int _) trivial
        · rename_i q3
          cases q
          rw [q3]
          exact k _ I2 H2 xx (.int _) trivial
        · cases q
      · cases q
    · cases q
  · cases q
/-! ### list(range(n)) -/
def fListRg (f : FE) : FE := fun e n => match f e n with
  | some (.d (.int j), n1) => if 0 ≤ j ∧ j ≤ big then some (.cell (intsUp 0 j.toNat), n1) else none
  | _ => none
theorem e_listRg (h : PE X e (tLstRg (tRg1 (tE X.kw f)))) : PE X e (tE X.kw (fListRg f)) := h.by fun σ H Q ⟨st, n, H0, I, ev, w, E, sv, n', q, k⟩ => by
  unfold fListRg at q
  split at q
  · rename_i j n1 q1
    split at q
    · rename_i hj
      cases q
      refine ⟨st, n, H0, I, ev, w, E, _, _, q1, fun v I1 H1 x1 r1 _ => ?_⟩
      cases r1
      have hb : (big : Int) = 100000 := rfl
      refine ⟨j, rfl, ⟨by omega, by omega, by omega, by omega, by omega⟩, fun p hp => ?_⟩
      have hd : DpAll X.kw I1 (rgV 0 j) (intsUp 0 j.toNat) := by
        have e1 : rgV 0 j = ((List.range j.toNat).map fun (i : Nat) => (0 : Int) + (i : Int)).map V.int := by
          unfold rgV
          rw [List.map_map, Int.sub_zero]
          rfl
        have e2 : intsUp 0 j.toNat = ((List.range j.toNat).map fun (i : Nat) => (0 : Int) + (i : Int)).map PyData.int := by
          unfold intsUp
          rw [List.map_map]
          rfl
        rw [e1, e2]
        exact DpAll.ints _
      obtain ⟨x2, k2, k3⟩ := sv_cellNew x1.w hd hp
      exact k _ _ _ (x1.trans x2) k2 (Fr.back x1 k2 k3)
    · cases q
  · cases q
end
/-! ### sets, sorted at once -/
def nub {α : Type} [DecidableEq α] : List α → List α
  | [] => []
  | x :: xs => if x ∈ nub xs then nub xs else x :: nub xs
theorem mem_nub {α : Type} [DecidableEq α] {a : α} : ∀ {xs : List α}, a ∈ nub xs ↔ a ∈ xs
  | [] => Iff.rfl
  | x :: xs => by
    unfold nub
    split
    · rename_i h
      rw [mem_nub, List.mem_cons]
      constructor
      · exact .inr
      · rintro (e | e)
        · rw [e]; exact mem_nub.mp h
        · exact e
    · rw [List.mem_cons, List.mem_cons, mem_nub]
theorem nub_nodup {α : Type} [DecidableEq α] : ∀ xs : List α, (nub xs).Nodup
  | [] => List.nodup_nil
  | x :: xs => by
    unfold nub
    split
    · exact nub_nodup xs
    · rename_i h
      exact List.nodup_cons.mpr ⟨h, nub_nodup xs⟩
section
variable {X : Cx} {e : Expr} {fa : FA} {K : KW} {P : Program} {w0 : World}
/-! ints -/
def ltI (a b : Int) : Bool := decide (a ≤ b)
def sortI (ns : List Int) : List Int := (nub ns).mergeSort ltI
theorem sortI_eq {ns ms : List Int} (h1 : ms.Pairwise (· < ·)) (h2 : ∀ k, k ∈ ms ↔ k ∈ ns) : ms = sortI ns := by
  have nd : ms.Nodup := h1.imp fun h => Int.ne_of_lt h
  have pm : ms.Perm (nub ns) := (List.perm_ext_iff_of_nodup nd (nub_nodup ns)).mpr fun a => by rw [h2, mem_nub]
  have tr : ∀ a b c : Int, ltI a b = true → ltI b c = true → ltI a c = true := fun a b c x y => by
    unfold ltI at *
    simp only [decide_eq_true_eq] at *
    omega
  have to : ∀ a b : Int, (ltI a b || ltI b a) = true := fun a b => by
    unfold ltI
    simp only [Bool.or_eq_true, decide_eq_true_eq]
    omega
  refine List.Perm.eq_of_pairwise (le := fun a b => ltI a b = true) (fun a b _ _ x y => ?_) (h1.imp fun h => ?_) (List.pairwise_mergeSort tr to (nub ns)) (pm.trans (List.mergeSort_perm _ _).symm)
  · unfold ltI at x y
    simp only [decide_eq_true_eq] at x y
    omega
  · unfold ltI
    rw [decide_eq_true_eq]
    omega
def fSortI (fa : FA) : FE := fun e n => match fa e n with
  | some ([.d (.tuple ds)], n1) => (match intsD ds with
    | some ns => if ns.length < 64 then some (.cell ((sortI ns).map PyData.int), n1) else none
    | none => none)
  | _ => none
theorem si_of {σ H} {Q : VK} (h : tE K (fSortI fa) σ H Q) : tCB (rSortedSet w0) (tCons (tCB (rSetTupI K w0) (tAs K fa)) tNil) σ H Q := by
  obtain ⟨st, n, H0, I, ev, w, E, sv, n', q, k⟩ := h
  unfold fSortI at q
  split at q
  · rename_i ds n1 q1
    split at q
    · rename_i ns q2
      split at q
      · rename_i hl
        cases q
        refine ⟨st, n, H0, I, ev, w, E, _, _, q1, fun vs I1 H1 x1 r1 => ?_⟩
        cases r1 with
        | cons g1 _ g2 =>
          cases g2
          cases g1 with
          | tup hs ha =>
            rename_i a us
            rw [intsD_of q2] at ha
            rw [ints_vs ha] at hs
            refine ⟨a, ns, rfl, ex_sqT x1.w.im.sub hs, by omega, fun b c hb hc => ?_⟩
            have x2 : Xt st n' I1 H1 I1 (upd H1 b (SetO w0 b (fun j => decide (j ∈ ns)) c)) := Xt.other x1.w hb (fun _ z => nomatch z)
            refine ⟨b, _, c, rfl, upd_same, by omega, fun ms p h1 h2 h3 hp => ?_⟩
            have em : ms = sortI ns := sortI_eq h1 fun j => by rw [h2, decide_eq_true_eq]
            rw [em]
            obtain ⟨x3, k3, k4⟩ := sv_cellNew x2.w (DpAll.ints (K := K) (sortI ns)) hp
            exact k _ _ _ ((x1.trans x2).trans x3) k3 (Fr.back (x1.trans x2) k3 k4)
      · cases q
    · cases q
  · cases q
theorem e_sortI (h : PE X e (tCB (rSortedSet X.w) (tCons (tCB (rSetTupI X.K X.w) (tAs X.kw fa)) tNil))) : PE X e (tE X.kw (fSortI fa)) := h.by fun σ H Q q => si_of q
end
end Sb
/-! P8: parts backwards: xs[::-1], xs[i::-1] of a list, z[::-1] of a text. -/
namespace Sb
open PySem PySem.Spec PyProof.Rows L2
section
variable {X : Cx} {e : Expr} {f : FE} {a : FO}
theorem s_setLc {s : Stmt} {i : Nat} {g : TG} {tg : FG} {sl own : List Nat} {it : FI} {t : FT} (hg : GDo X.kw g tg sl) (ho : ∀ i ∈ sl, i ∈ own) (h : PS X s (tAsg (tLc (tIs X.kw true it) g (tTs X.kw t) (tE X.kw f) own) (gName i))) : PS X s (tSs X.kw (sAsg i (fLc it tg own t f))) :=
  s_set (h.by fun D σ H q => lc_of hg ho σ H _ q)
theorem t_notInM {p : Addr} {m : List (Str × Int)} (D : KDm X.K X.w p m) (h : PT X e (tTest (tOp (rInDm X.K X.w true) (tE X.kw f) (tC (.ref p))))) : PT X e (tTs X.kw (bT (fInM true m f))) := h.by fun σ H Q ⟨st, n, H0, I, ev, w, E, b, n', q, k⟩ => by
  have q := bT_eq q
  unfold fInM at q
  split at q
  · rename_i z n1 q1
    cases q
    refine ⟨st, n, H0, I, ev, w, E, _, _, q1, fun v I1 H1 x1 r1 _ => ?_⟩
    cases r1
    refine ⟨p, z, m, rfl, rfl, D, _, rfl, ?_⟩
    have := k I1 H1 x1
    rw [Bool.bne_true] at this
    exact this
  · cases q
end
end Sb
/-! P14: range with a step of -1. -/
/-! P15: list.index. -/
namespace Sb
open PySem PySem.Spec PyProof.Rows L2
def indexG (a : Sv) (as : List Sv) : Option Sv := match a.see, as with
  | some (.list ds), [.d d] => if SeqAt.shaped (.list ds) = true ∧ SeqAt.shaped d = true then (match ds.findIdx? fun z => PyData.eqv z d with
      | some j => some (.d (.int (j : Nat)))
      | none => none) else none
  | _, _ => none
theorem md_index {K : KW} : MDo K (rIndexD K) indexG := by
  intro st n I H x a vs as sv Q w ra rs e k
  unfold indexG at e
  split at e
  · rename_i ds d hs
    split at e
    · rename_i hsh
      split at e
      · rename_i j hj
        cases e
        cases rs with
        | cons h1 hq h2 =>
          cases h2
          rename_i v
          obtain ⟨p, us, rfl, _, _⟩ := (ra.see hs).lst w.im
          have hL := (ra.see hs).dp w.im
          have hd : Dp K H v d := Dp.mono w.im.sub _ _ h1
          obtain ⟨hlt, hp, hn⟩ := List.findIdx?_eq_some_iff_getElem.mp hj
          refine ⟨p, v, d, ds, j, ds[j], rfl, rfl, hL, hd, hsh.1, hsh.2, List.getElem?_eq_getElem hlt, hp, fun m z hm hz => ?_, k _ I H (.refl w) (.int _) trivial⟩
          obtain ⟨hml, rfl⟩ := List.getElem?_eq_some_iff.mp hz
          have := hn m hm
          simpa using this
      · cases e
    · cases e
  · cases e
end Sb
/-! P16: a comprehension within a comprehension. -/
/-! P20: x += e of ints, tuple(range(..)), list(range(a, b)). -/
/-! P19: list.count of data. -/
namespace Sb
open PySem PySem.Spec PyProof.Rows L2
section
variable {X : Cx}
def rCountD (K : PySem.W.Frag) : V → List V → Hp → VK → Prop := fun x xs H Q => ∃ (a : Addr) (y : V) (d : PyData) (ds : List PyData), x = V.ref a ∧ xs = [y] ∧ Dp K H (V.ref a) (.list ds) ∧ Dp K H y d ∧
  SeqAt.shaped (.list ds) = true ∧ SeqAt.shaped d = true ∧ Q (.int ((ds.countP fun z => PyData.eqv z d : Nat) : Int)) H
theorem mt_countD (hu : X.A.units + 65 < cLine) : MtR X "list.count" (rCountD X.K) := by
  intro pins s σ H x xs v us Q I rx rxs h
  obtain ⟨a, y, d, ds, rfl, rfl, hl, hy, sl, sd, q⟩ := h
  cases rx
  cases rxs with
  | cons ry rt =>
    rename_i uy ut
    cases rt
    obtain ⟨bs, r1⟩ := Dp.reads I d y uy hy ry
    have hxs : PyData.canLayAll0 ds = true := SeqAt.canLay_of_shaped sl
    have hroom : X.A.units + 1 + min (PyData.depthAll ds) d.depth < cLine := room_in_shaped sd hu
    cases hl with
    | lst hs ha =>
      obtain ⟨its, rv, ⟨⟨cls, dd, data, sls⟩, n, ho, hc, hdn, hdt⟩, hlen⟩ := I.list hs
      simp only at hc hdt
      subst hc hdt
      obtain ⟨as, h4⟩ := Dp.readsAll I ds _ its ha rv
      have hmap : its.map (SeqAt.readOf s.heap) = ds := SeqAt.readsAll_map ds its as hxs h4
      refine call_meets PySem.F.slot_list_count ⟨_, ho, rfl⟩ PySem.F.entry_list_count (PySem.F.args_list_count_2 _ _)
        (SeqAt.list_countAt a its.toArray n dd sls uy (fun u => PyData.eqv (SeqAt.readOf s.heap u) d)) ⟨ho, SeqAt.items_eqAt (vs := its.toArray) (show ReadsAll s.heap its.toArray.toList ds as from h4) r1 hxs (SeqAt.canLay_of_shaped sd) hroom, ?_⟩
      have ec : its.toArray.toList.countP (fun u => PyData.eqv (SeqAt.readOf s.heap u) d) = ds.countP fun z => PyData.eqv z d := by
        rw [← hmap, List.countP_map]
        rfl
      rw [ec]
      exact ⟨.int _, H, I.tok _, ⟨_, rfl⟩, q⟩
end
def countLG (a : Sv) (as : List Sv) : Option Sv := match a.see, as with
  | some (.list ds), [.d d] => if SeqAt.shaped (.list ds) = true ∧ SeqAt.shaped d = true then some (.d (.int ((ds.countP fun z => PyData.eqv z d : Nat) : Int))) else none
  | _, _ => none
theorem md_countL {K : KW} : MDo K (rCountD K) countLG := by
  intro st n I H x a vs as sv Q w ra rs e k
  unfold countLG at e
  split at e
  · rename_i ds d hs
    split at e
    · rename_i hsh
      cases e
      cases rs with
      | cons h1 hq h2 =>
        cases h2
        rename_i v
        obtain ⟨p, us, rfl, _, _⟩ := (ra.see hs).lst w.im
        have hL := (ra.see hs).dp w.im
        have hd : Dp K H v d := Dp.mono w.im.sub _ _ h1
        exact ⟨p, v, d, ds, rfl, rfl, hL, hd, hsh.1, hsh.2, k _ I H (.refl w) (.int _) trivial⟩
    · cases e
  · cases e
end Sb
/-! PX: exceptions. -/
namespace Sb
open PySem PySem.Spec PyProof.Rows L2
inductive Fx where
  | fl (f : Fl) | ex (c : Str)
abbrev FX := Ev → Nat → Option (Fx × Ev × Nat)
inductive Rx where
  | v (sv : Sv) | ex (c : Str)
abbrev FEX := Ev → Nat → Option (Rx × Nat)
abbrev FFX := List Sv → Nat → Option (Rx × Nat)
def clsV (mg : Str → Option Value) (c : Str) : Value := (mg c).getD .none
def FinX (K : KW) (mg : Str → Option Value) (W : WX) (st : Stt) (I0 H0 I : Hp) (D : Ends) (r : Fx) (e' : Ev) (n' : Nat) : Prop := match r with
  | .fl fl => Fin K st I0 H0 I D fl e' n'
  | .ex c => ∀ σ' I' H', σ'.length = e'.length → Xt st n' I0 H0 I' H' → W (clsV mg c) none σ' H'
theorem FinX.up {K mg W st I0 H0 I I1 D r e' n'} (s : Same I I1) (h : FinX K mg W st I0 H0 I D r e' n') : FinX K mg W st I0 H0 I1 D r e' n' := by
  cases r with
  | fl f => exact Fin.up s h
  | ex c => exact h
/-- what is wanted of an expression that may raise; E: of the exception -/
def EndX (K : KW) (mg : Str → Option Value) (E : XK) (st : Stt) (I H : Hp) (Q : VK) (r : Rx) (n' : Nat) : Prop := match r with
  | .v sv => ∀ v I' H', Xt st n' I H I' H' → SvR K st I' H' v sv → Fr H v sv → Q v H'
  | .ex c => ∀ I' H', Xt st n' I H I' H' → E (clsV mg c) none H'
theorem EndX.after {K mg E st I H Q r n' m I1 H1} (x1 : Xt st m I H I1 H1) (h : EndX K mg E st I H Q r n') : EndX K mg E st I1 H1 Q r n' := by
  cases r with
  | v sv => exact fun v2 I2 H2 x2 r2 f2 => h v2 I2 H2 (x1.trans x2) r2 (Fr.back x1 r2 f2)
  | ex c => exact fun I2 H2 x2 => h I2 H2 (x1.trans x2)
def tXs (K : KW) (mg : Str → Option Value) (W : WX) (f : FX) : TS := fun D σ H => ∃ st n I0 H0 I e, Xt st n I0 H0 I H ∧ Er K st H0 I H σ e ∧ ∃ r e' n', f e n = some (r, e', n') ∧ FinX K mg W st I0 H0 I D r e' n'
def tEX (K : KW) (mg : Str → Option Value) (W : WX) (f : FEX) : TE := fun σ H Q => ∃ st n H0 I e, Wr st n I H ∧ Er K st H0 I H σ e ∧ ∃ r n', f e n = some (r, n') ∧ EndX K mg (fun c d H => W c d σ H) st I H Q r n'
def spX (K : KW) (mg : Str → Option Value) (np : Nat) (F : FFX) : Sp := fun vs H Q E => vs.length = np ∧ ∃ st n I as, Wr st n I H ∧ ArgsR K st I H vs as ∧ ∃ r n', F as n = some (r, n') ∧ EndX K mg E st I H Q r n'
section
variable {X : Cx} {W : WX} {e e2 : Expr} {es : List Expr} {s : Stmt} {ss : List Stmt} {f g : FE} {fx gx : FEX} {fa : FA} {ft : FT} {a : FS} {xa xb : FX} {K : KW}
/-! what raises nothing -/
def xV (f : FE) : FEX := fun e n => match f e n with
  | some (sv, n1) => some (.v sv, n1)
  | none => none
theorem e_xV (h : PE X e (tE X.kw f)) : PE X e (tEX X.kw X.mg W (xV f)) := h.by fun σ H Q ⟨st, n, H0, I, ev, w, E, r, n', q, k⟩ => by
  unfold xV at q
  split at q
  · rename_i sv n1 q1
    cases q
    exact ⟨st, n, H0, I, ev, w, E, sv, _, q1, k⟩
  · cases q
def xFl (a : FS) : FX := fun e n => match a e n with
  | some (f, e1, n1) => some (.fl f, e1, n1)
  | none => none
theorem s_xFl (h : PS X s (tSs X.kw a)) : PS X s (tXs X.kw X.mg W (xFl a)) := h.by fun D σ H ⟨st, n, I0, H0, I, e, x, E, r, e', n', q, k⟩ => by
  unfold xFl at q
  split at q
  · rename_i f e1 n1 q1
    cases q
    exact ⟨st, n, I0, H0, I, e, x, E, f, _, _, q1, k⟩
  · cases q
theorem b_xFl (h : PSs X ss (tSs X.kw a)) : PSs X ss (tXs X.kw X.mg W (xFl a)) := h.by fun D σ H ⟨st, n, I0, H0, I, e, x, E, r, e', n', q, k⟩ => by
  unfold xFl at q
  split at q
  · rename_i f e1 n1 q1
    cases q
    exact ⟨st, n, I0, H0, I, e, x, E, f, _, _, q1, k⟩
  · cases q
/-! blocks -/
def xSeq (a b : FX) : FX := fun e n => match a e n with
  | some (.fl .nx, e1, n1) => b e1 n1
  | r => r
theorem x_cons (h1 : PS X s (tXs X.kw X.mg W xa)) (h2 : PSs X ss (tXs X.kw X.mg W xb)) : PSs X (s :: ss) (tXs X.kw X.mg W (xSeq xa xb)) := (pss_cons h1 h2).by fun D σ H ⟨st, n, I0, H0, I, e, x, E, r, e', n', q, k⟩ => by
  unfold xSeq at q
  split at q
  · rename_i e1 n1 q1
    refine ⟨st, n, I0, H0, I, e, x, E, .fl .nx, e1, n1, q1, fun σ1 I1 H1 x1 E1 s1 => ⟨st, n1, I0, H0, I1, e1, x1, E1, r, e', n', q, FinX.up s1 k⟩⟩
  · rename_i hne
    refine ⟨st, n, I0, H0, I, e, x, E, r, e', n', q, ?_⟩
    cases r with
    | fl f =>
      cases f with
      | nx => exact absurd q (hne e' n')
      | rt v => exact k
      | bk => exact k
      | ct => exact k
    | ex c => exact k
theorem x_one (h1 : PS X s (tXs X.kw X.mg W xa)) : PSs X [s] (tXs X.kw X.mg W xa) := pss_one h1
theorem x_nil : PSs X [] (tXs X.kw X.mg W (xFl sNx)) := b_xFl b_nil
/-! raise -/
def xRaise (c : Str) : FX := fun e n => some (.ex c, e, n)
theorem s_raise {c : Str} {C : Addr} (gC : X.mg c = some (.ref C)) (h : PS X s (fun _ σ H => W (.ref C) none σ H)) : PS X s (tXs X.kw X.mg W (xRaise c)) := h.by fun D σ H ⟨st, n, I0, H0, I, e, x, E, r, e', n', q, k⟩ => by
  cases q
  have z := k σ I H E.len x
  unfold clsV at z
  rw [gC] at z
  exact z
/-! if, calls -/
def xIf (t : FT) (a b : FX) : FX := fun e n => match t e n with
  | none => none
  | some (true, n1) => a e n1
  | some (false, n1) => b e n1
theorem x_ite {c : Expr} {sa sb : List Stmt} {pos : Pos} (hc : PT X c (tTs X.kw ft)) (h1 : PSs X sa (tXs X.kw X.mg W xa)) (h2 : PSs X sb (tXs X.kw X.mg W xb)) : PS X (.If c sa sb pos) (tXs X.kw X.mg W (xIf ft xa xb)) := (ps_if hc h1 h2).by fun D σ H ⟨st, n, I0, H0, I, e, x, E, r, e', n', q, k⟩ => by
  unfold xIf at q
  split at q
  · cases q
  · rename_i n1 q1
    refine ⟨st, n, H0, I, e, x.w, E, true, n1, q1, fun I1 H1 x1 => ?_⟩
    dsimp only
    rw [if_pos rfl]
    exact ⟨st, n1, I0, H0, I1, e, x.trans x1, E.mono x1, r, e', n', q, FinX.up x1.ii k⟩
  · rename_i n1 q1
    refine ⟨st, n, H0, I, e, x.w, E, false, n1, q1, fun I1 H1 x1 => ?_⟩
    dsimp only
    rw [if_neg Bool.false_ne_true]
    exact ⟨st, n1, I0, H0, I1, e, x.trans x1, E.mono x1, r, e', n', q, FinX.up x1.ii k⟩
def fCallX (np : Nat) (F : FFX) (fa : FA) : FEX := fun e n => match fa e n with
  | none => none
  | some (as, n1) => if as.length = np then F as n1 else none
theorem passN {X : Cx} {W : WX} (tk : L2N.Takes X W) (σ : L2.St) : PassesAt (L2N.CX X.prog X.w) X σ (WE W σ) := fun _ _ _ e s' I c => tk e s' (L2N.XE.of_call I (fun _ _ _ h => h) c)
theorem e_callX {k : Nat} {fn : Addr} {fd : FuncData} {ps : List Str} {x : Str} {p pos : Pos} {np : Nat} {F : FFX} (tk : L2N.Takes X W) (G : FnOk X.prog X.w X.K X.mg X.base (L2N.CX X.prog X.w) k fn fd ps (spX X.kw X.mg np F)) (hr : Room k X.A) (hg : Gl X x) (hm : X.mg x = some (.ref fn)) (hk : PySem.W.keepIn X.K (.ref fn) = true) (hb : Binds X.K fd ps [])
    (ha : PA X (e :: es) (tAs X.kw fa)) (hdb : (x == ("__debug__" : Str)) = false := by decide) (he : starEach (e :: es) X.env = (false, eval e X.env) :: starEach es X.env := by rfl) (hpl : (backTo pos (starEach es X.env)).any (·.1) = false := by rfl) :
    PE X (.Call (.Name x p) (e :: es) [] pos) (tEX X.kw X.mg W (fCallX np F fa)) := (pe_callS (E := WE W) G hr hg hm hk hb (fun σ => passN tk σ) ha hdb he hpl).by fun σ H Q ⟨st, n, H0, I, ev, w, E, r, n', q, k⟩ => by
  unfold fCallX at q
  split at q
  · cases q
  · rename_i as n1 q1
    split at q
    · rename_i hl
      refine ⟨st, n, H0, I, ev, w, E, as, n1, q1, fun vs I1 H1 x1 r1 => ⟨by rw [r1.len]; exact hl, st, n1, I1, as, x1.w, r1, r, n', q, EndX.after x1 k⟩⟩
    · cases q
def xRet (f : FEX) : FX := fun e n => match f e n with
  | some (.v sv, n1) => if sv.own = true then some (.fl (.rt sv), e, n1) else none
  | some (.ex c, n1) => some (.ex c, e, n1)
  | none => none
theorem s_retX (h : PS X s (tRet (tEX X.kw X.mg W fx))) : PS X s (tXs X.kw X.mg W (xRet fx)) := h.by fun D σ H ⟨st, n, I0, H0, I, e, x, E, r, e', n', q, k⟩ => by
  unfold xRet at q
  split at q
  · rename_i sv n1 q1
    split at q
    · cases q
      exact ⟨st, n, H0, I, e, x.w, E, _, _, q1, fun v I1 H1 x1 r1 f1 => k v I1 H1 (x.trans x1) r1 (Fr.back x r1 f1)⟩
    · cases q
  · rename_i c n1 q1
    cases q
    exact ⟨st, n, H0, I, e, x.w, E, _, _, q1, fun I1 H1 x1 => k σ I1 H1 E.len (x.trans x1)⟩
  · cases q
/-- i = e, where e may raise -/
def xAsg (i : Nat) (f : FEX) : FX := fun e n => match f e n with
  | some (.v sv, n1) => if sv.own = true then some (.fl .nx, e.set i (some sv), n1) else none
  | some (.ex c, n1) => some (.ex c, e, n1)
  | none => none
end
/-! ### defs that may raise -/
def runFX (N np : Nat) (body : FX) : FFX := fun as n => if as.length = np then match body (argsE N np as) n with
    | some (.fl .nx, _, n') => some (.v (.d .none), n')
    | some (.fl (.rt v), _, n') => some (.v v, n')
    | some (.ex c, _, n') => some (.ex c, n')
    | _ => none
  else none
section
variable {P : Program} {w : World} {K : PySem.W.Frag} {mg : Str → Option Value} {base : Heap}
theorem okN {x qual : Str} {st : Stmt} {f : Addr} {fd : FuncData} {N ps : List Str} {k : Nat} {sp : Sp} (F : Fun K x qual st f fd) (S : FnScope N ps (defScope st)) (len : ∀ vs H Q E, sp vs H Q E → vs.length = ps.length)
    (hbody : ∀ (cdv : Value) (A : Around) (outer : List Env) (s : Shared) (H : Hp) (vs : List V) (Q : VK) (E : XK), Room k (A.deeper (envOfC qual (defScope st) s.heap.objs.size f cdv)) → sp vs H Q E →
      ∃ t, PSs (cxOf (L2N.CX P w) P w K mg base N qual (defScope st) f cdv A outer s H E) (defBody st) t ∧ t { nx := fun _ H' => Q .non H', rt := Q } (L2.start N vs) H) : FnOk P w K mg base (L2N.CX P w) (k + 1) f fd ps sp := by
  obtain ⟨oc, od, kV, doc, pm, an, cdv, ct, osl, rfl, lk, hcd⟩ := F.ex
  exact fn_of lk hcd S len fun A outer s H vs Q E hr hsp => hbody cdv A outer s H vs Q E hr hsp
theorem fn_piX {x qual : Str} {st : Stmt} {f : Addr} {fd : FuncData} {N ps : List Str} {k : Nat} {body : FX} (F : Fun K x qual st f fd) (S : FnScope N ps (defScope st))
    (hb : ∀ (cdv : Value) (A : Around) (outer : List Env) (s : Shared) (H : Hp) (E : XK), Room k (A.deeper (envOfC qual (defScope st) s.heap.objs.size f cdv)) →
      ∀ W, L2N.Takes (cxOf (L2N.CX P w) P w K mg base N qual (defScope st) f cdv A outer s H E) W → PSs (cxOf (L2N.CX P w) P w K mg base N qual (defScope st) f cdv A outer s H E) (defBody st) (tXs ⟨K, P, w⟩ mg W body)) :
    FnOk P w K mg base (L2N.CX P w) (k + 1) f fd ps (spX ⟨K, P, w⟩ mg ps.length (runFX N.length ps.length body)) := by
  refine okN F S (fun vs H Q E h => h.1) (fun cdv A outer s H vs Q E hr h => ⟨_, hb cdv A outer s H E hr (fun cls d _ H => E cls d H) (L2N.takes_of rfl rfl rfl rfl), ?_⟩)
  obtain ⟨_, stt, n, I, as, w1, ra, r, n', q, k⟩ := h
  unfold runFX at q
  split at q
  · rename_i hn
    split at q
    · rename_i e' m q1
      cases q
      exact ⟨stt, n, I, H, I, _, .refl w1, er_start ra hn, .fl .nx, e', _, q1, fun σ' I' H' x' _ _ => k .non I' H' x' .non trivial⟩
    · rename_i v e' m q1
      cases q
      exact ⟨stt, n, I, H, I, _, .refl w1, er_start ra hn, .fl (.rt _), e', _, q1, fun v I' H' x' r' f' => k v I' H' x' r' f'⟩
    · rename_i c e' m q1
      cases q
      exact ⟨stt, n, I, H, I, _, .refl w1, er_start ra hn, .ex _, e', _, q1, fun σ' I' H' _ x' => k I' H' x'⟩
    · cases q
  · cases q
end
end Sb
/-! PY: an exception that is caught, asked for its class. -/
namespace Sb
open PySem PySem.Spec PyProof.Rows L2
theorem _root_.L2H.RoomH.units {k : Nat} {A : Around} (r : L2H.RoomH k A) : A.units + 64 < cLine := by have := r.un; omega
theorem unitsH {k : Nat} {A : Around} (r : L2H.RoomH k A) : A.units + 65 < cLine := by have := r.un; omega
section
variable {X : Cx} {f : FE} {fa : FA}
theorem call_isP {a D : Addr} {oe : Obj} (hp : (a, oe) ∈ X.pn) (C : ExcC X.K D) (hz : Zc (.ref D) none oe) (hf : ∃ vs, oe.data = .fields vs) : CallR X (.builtin "isinstance") (rIsE X.K D a) := by
  intro pins s σ H xs us Q I r h
  obtain ⟨c, cv, b, rfl, hcv, e, q⟩ := h
  cases r with
  | cons rx rr =>
    cases rr with
    | cons rt rr =>
      cases rr
      cases rx
      have ec := hcv _ rt
      subst ec
      obtain ⟨hget, _⟩ := I.pin (a, oe) (List.mem_append.mpr (.inl hp))
      obtain ⟨vs, hv⟩ := hf
      have J : PySem.W.InstAt s.heap a oe D none := by
        obtain ⟨oc, od, oda, osl⟩ := oe
        obtain ⟨h1, h2⟩ := hz
        dsimp only at h1 h2 hv
        subst h1 h2 hv
        exact ⟨hget, rfl, rfl, trivial⟩
      exact PySem.W.kia_one (PySem.W.handS_kitx_exc C.hg C.hk C.hs C.hd C.ha C.hn C.ht C.hm) I.kIn J e (fun z => nomatch z) fun tk => ⟨.bl b, H, I.kept (t' := tk) fun _ _ z => z, rfl, q⟩
def fIsE (i : Nat) (a : Addr) (b : Bool) : FE := fun e n => match e[i]? with
  | some (some (.kn (.ref p))) => if p = a then some (.d (.bool b), n) else none
  | _ => none
theorem e_isE {i : Nat} {a D : Addr} {b : Bool} {oe : Obj} {e e2 : Expr} {u : V} {cv : Value} {p pos : Pos} (hp : (a, oe) ∈ X.pn) (C : ExcC X.K D) (hz : Zc (.ref D) none oe) (hf : ∃ vs, oe.data = .fields vs) (hu : ∀ x, RelV u x → x = cv) (hk : PySem.W.kitOne X.K (.ref D) cv = some b)
    (hg : Gl X "isinstance") (hm : X.mg "isinstance" = none) (ha : PA X [e, e2] (tCons (tVar i) (tCons (tC u) tNil)))
    (he : starEach [e, e2] X.env = (false, eval e X.env) :: starEach [e2] X.env := by rfl) (hpl : (backTo pos (starEach [e2] X.env)).any (·.1) = false := by rfl) : PE X (.Call (.Name "isinstance" p) [e, e2] [] pos) (tE X.kw (fIsE i a b)) :=
  (pe_callB (call_isP hp C hz hf) hg hm (by decide +kernel) ha (by decide) (by decide) he hpl).by fun σ H Q ⟨st, n, H0, I, ev, w, E, sv, n', q, k⟩ => by
    unfold fIsE at q
    split at q
    · rename_i p' q1
      split at q
      · rename_i hp'
        subst hp'
        cases q
        obtain ⟨v, h1, h2, _⟩ := E.at_ i _ q1
        cases h2
        exact ⟨_, h1, u, cv, b, rfl, hu, hk, k _ I H (.refl w) (.bl _) trivial⟩
      · cases q
    · cases q
end
/-! ### the def that asks, called within an except suite -/
structure FnW (P : Program) (w : World) (K : PySem.W.Frag) (mg : Str → Option Value) (base : Heap) (k : Nat) (f : Addr) (fd : FuncData) (x : Str) (C : Addr) (r : PyData) : Prop where
  run : ∀ (A : Around) (outer : List Env) (s : Shared) (H : Hp) (args : Args) (Q : VK) (E : XK) (p : Addr × Obj) (st : Stt) (n : Nat) (I : Hp), L2H.RoomH k A → L2H.Hot1 A p → L2H.PinOk outer H s p → Env0 P w K mg base A outer s H → BindsTo s fd args [(x, .ref p.1)] →
    Zc (.ref C) none p.2 → (∃ vs, p.2.data = .fields vs) → Wr st n I H → (∀ v I' H', Xt st n I H I' H' → Dp K I' v r → Q v H') → codeAny (model P w) A (.call (.ref f) args) (CR CX0 outer P w H s Q E) s
section
variable {P : Program} {w : World} {K : PySem.W.Frag} {mg : Str → Option Value} {base : Heap}
theorem whichOk {x qual : Str} {st : Stmt} {f : Addr} {fd : FuncData} {N : List Str} {pn : Str} {k : Nat} {C : Addr} {r : PyData} {body : Addr → FS} (F : Fun K x qual st f fd) (S : FnScope N [pn] (defScope st))
    (hr : ∀ (a : Addr) n, ∃ e', body a (argsE N.length 1 [.kn (.ref a)]) n = some (.rt (.d r), e', n))
    (hb : ∀ (cdv : Value) (A : Around) (outer : List Env) (s : Shared) (H : Hp) (E : XK) (p : Addr × Obj), L2H.Hot1 A p → L2H.RoomH k (A.deeper (envOfC qual (defScope st) s.heap.objs.size f cdv)) → Zc (.ref C) none p.2 → (∃ vs, p.2.data = .fields vs) →
      PSs (L2H.cxH CX0 P w K mg base N qual (defScope st) f cdv A outer s H E p) (defBody st) (tSs ⟨K, P, w⟩ (body p.1))) : FnW P w K mg base (k + 1) f fd pn C r := by
  obtain ⟨oc, od, kV, doc, pm, an, cdv, ct, osl, rfl, lk, hcd⟩ := F.ex
  refine ⟨fun A outer s H args Q E p st0 n I hroom hot hpin e0 hbd hz hf W kQ => ?_⟩
  have KX : K.In s.heap := e0.mod.kin.keeps fun b o e => (e0.bs b o e).1
  have lim : s.heap.NoLimit := e0.mod.nolimit.keeps fun b o e => (e0.bs b o e).1
  have hkind : ∀ y ∈ [pn].zip [Value.ref p.1], (defScope st).names.lookup y.1 = some .local ∨ ((defScope st).names.lookup y.1 = some .cell ∧ ((cellsFrom (s.heap.objs.size + 1) (defScope st).names []).lookup y.1).isSome = true) := fun ⟨n, v⟩ hy => by
    rcases S.par n (List.of_mem_zip hy).1 with q | q
    · exact .inl q
    · exact .inr ⟨q, PySem.W.cellsFrom_some _ _ _ (.inl q)⟩
  refine codeAny_call_function hroom.depth (KX _ _ lk) rfl S.co S.gen rfl (PySem.W.codeRec_of KX hcd) (hbd _ _ _ _ ?_)
  refine wpAny_newFunctionEnv_cells S.kind hkind fun env he s1 x => ?_
  subst he
  refine ⟨lim.keeps x.toInCall.keep, codeAny_func ?_⟩
  have I1 : Inv (L2H.cxH CX0 P w K mg base N qual (defScope st) f cdv A outer s H E p) [] (L2.start N [.ref p.1]) H s1 := L2H.inv_startH S hpin e0 rfl (.cons rfl .nil) x
  obtain ⟨e', hq⟩ := hr p.1 n
  have ra : ArgsR ⟨K, P, w⟩ st0 I H [.ref p.1] [.kn (.ref p.1)] := .cons rfl rfl .nil
  refine wpAny_mono ((hb cdv A outer s H E p hot (hroom.deeper _) hz hf).run [] s1 (L2.start N [.ref p.1]) H { nx := fun _ _ => False, rt := Q } I1
    ⟨st0, n, I, H, I, _, .refl W, er_start ra rfl, .rt (.d r), e', n, hq, fun v I' H' x' r' _ => kQ v I' H' x' r'⟩) (fun fl s' hs => ?_) fun e s' hs => hs
  cases fl with
  | ret u =>
    obtain ⟨v, σ', H', J, rv, q⟩ := hs
    exact ⟨v, H', J.os, J.bare, J.base, J.hok, rv, q⟩
  | next => obtain ⟨_, _, _, q⟩ := hs; exact False.elim q
  | brk => obtain ⟨_, _, _, q⟩ := hs; exact False.elim q
  | cont => obtain ⟨_, _, _, q⟩ := hs; exact False.elim q
end
/-! ### try: .. except B as e: return which(e) -/
/-- each exception that is told: its name, its class, what the def that asks says of it -/
structure Told (P : Program) (w : World) (K : PySem.W.Frag) (mg : Str → Option Value) (base : Heap) (k : Nat) (f : Addr) (fd : FuncData) (x : Str) (B : Addr) (g : Str → Option PyData) : Prop where
  of : ∀ c r, g c = some r → ∃ C, mg c = some (.ref C) ∧ PySem.W.exmOne K (.ref C) (.ref B) = some true ∧ FnW P w K mg base k f fd x C r
def sTry (i : Nat) (b : FX) (g : Str → Option PyData) : FS := fun e n => match b e n with
  | some (.fl f, e1, n1) => some (f, e1, n1)
  | some (.ex c, e1, n1) => if i < e1.length then (match g c with
    | some d => some (.rt (.d d), e1, n1)
    | none => none) else none
  | none => none
section
variable {X : Cx}
/-- the suite: return which(e) -/
def tsWhich (K : KW) (mg : Str → Option Value) (g : Str → Option PyData) (i : Nat) (a : Addr) (cls : Value) (d : Option Addr) : TS := fun D σ H =>
  σ[i]? = some (some (.ref a)) ∧ d = none ∧ ∃ c r, cls = clsV mg c ∧ g c = some r ∧ ∃ st n I0 H0 I, Xt st n I0 H0 I H ∧ ∀ v I' H', Xt st n I0 H0 I' H' → Dp K I' v r → D.rt v H'
theorem ps_which {k : Nat} {f : Addr} {fd : FuncData} {x xn : Str} {B : Addr} {g : Str → Option PyData} {i : Nat} {a : Addr} {oe : Obj} {cls : Value} {d : Option Addr} {pn : List (Addr × Obj)} {e : Expr} {p pos pos2 : Pos}
    (hT : Told X.prog X.w X.K X.mg X.base k f fd x B g) (hz : L2N.Zn cls d oe) (hf : ∃ vs, oe.data = .fields vs) (hr : L2H.RoomH k X.A) (hb : Binds X.K fd [x] []) (hg : Gl X xn) (hm : X.mg xn = some (.ref f)) (hk : PySem.W.keepIn X.K (.ref f) = true) (hv : PE (X.suite a ((a, oe) :: pn)) e (tVar i))
    (hdb : (xn == ("__debug__" : Str)) = false := by decide) (he : starEach [e] X.env = [(false, eval e X.env)] := by rfl) :
    PSs (X.suite a ((a, oe) :: pn)) [.Return (some (.Call (.Name xn p) [e] [] pos)) pos2] (tsWhich X.kw X.mg g i a cls d) := by
  have pe : PE (X.suite a ((a, oe) :: pn)) (.Call (.Name xn p) [e] [] pos) (fun σ H Q => σ[i]? = some (some (.ref a)) ∧ d = none ∧ ∃ c r, cls = clsV X.mg c ∧ g c = some r ∧ ∃ st n I0 H0 I, Xt st n I0 H0 I H ∧ ∀ v I' H', Xt st n I0 H0 I' H' → Dp X.kw I' v r → Q v H') := by
    refine ⟨fun pins s σ H Q I h => ?_⟩
    obtain ⟨hσ, rfl, c, r, rfl, hgc, st, n, I0, H0, Ik, xt, kq⟩ := h
    obtain ⟨C, hC, hex, FW⟩ := hT.of c r hgc
    have ecls : clsV X.mg c = .ref C := by unfold clsV; rw [hC]; rfl
    rw [ecls] at hz
    have ha : PA (X.suite a ((a, oe) :: pn)) [e] (tCons (tVar i) tNil) := pa_cons hv pa_nil he
    refine wpAny_Call_Name_kw (ld_glob I hg hm ?_ hdb)
    refine PySem.W.callWith_K (h₀ := X.base) I.ok.mod.kin hk (thn (ha.run pos pins s σ H (fun vs H1 => vs = [.ref a] ∧ H1 = H) I ⟨_, hσ, rfl, rfl⟩) fun us s1 ⟨vs, H1, I1, rr, ev, eH⟩ => ⟨I1.kIn, ?_⟩) he (by rfl)
    subst ev
    subst eH
    have eu : us = [.ref a] := Vals.ref1 rr
    subst eu
    have b := hb s1 [.ref a] I1.kIn rfl
    have P1 := I1.pin (a, oe) (List.mem_append_left _ List.mem_cons_self)
    have hpin : L2H.PinOk (X.suite a ((a, oe) :: pn)).stack H1 s1 (a, oe) := ⟨P1.1, P1.2.1, fun hm => (List.mem_cons.mp (I1.stkSub a hm)).elim P1.2.2.1 P1.2.2.2.1, P1.2.2.2.2⟩
    obtain ⟨vs0, hvs⟩ := hf
    refine wpAny_call (codeAny_mono (FW.run (X.suite a ((a, oe) :: pn)).A (X.suite a ((a, oe) :: pn)).stack s1 H1 ⟨[.ref a], []⟩ Q (fun _ _ _ => False) (a, oe) st n Ik ⟨hr.dp, hr.un⟩ ⟨rfl, vs0, hvs, hz.2.2 vs0 hvs⟩ hpin I1.env0 b hz.zc ⟨vs0, hvs⟩ xt.w
      fun v I' H' x' dv => kq v I' H' (xt.trans x') dv) fun r s' hq => ?_)
    cases r with
    | error e => exact False.elim hq
    | ok fl =>
      cases fl with
      | ret u => exact I1.after hq
      | next => exact False.elim hq
      | brk => exact False.elim hq
      | cont => exact False.elim hq
  exact pss_one ((ps_ret pe).by fun D σ H h => h)
theorem s_try {k : Nat} {f : Addr} {fd : FuncData} {x xn n B : Str} {Ba : Addr} {g : Str → Option PyData} {i : Nat} {xb : FX} {body : List Stmt} {e : Expr} {np p pos pos1 pos2 pos' : Pos}
    (hT : Told X.prog X.w X.K X.mg X.base k f fd x Ba g) (hr : L2H.RoomH k X.A) (hb : Binds X.K fd [x] []) (hg : Gl X xn) (hm : X.mg xn = some (.ref f)) (hk : PySem.W.keepIn X.K (.ref f) = true)
    (hs : X.stack = X.env :: X.outer) (hfr : X.env.frame = some X.env.locals) (hN : X.N.Nodup) (hi : X.N[i]? = some n) (hln : X.env.kindOf n = some .local) (hc : Names X B (.ref Ba))
    (hv : ∀ a oe pn, PE (X.suite a ((a, oe) :: pn)) e (tVar i))
    (hbody : ∀ (W : WX) (pn : List (Addr × Obj)) (xe : Value → Shared → Prop), L2N.Takes (X.tr pn xe) W → PSs (X.tr pn xe) body (tXs X.kw X.mg W xb))
    (hdb : (xn == ("__debug__" : Str)) = false := by decide) (he : starEach [e] X.env = [(false, eval e X.env)] := by rfl) :
    PS X (.Try body [.ExceptHandler (some (.Name B np)) (some n) [.Return (some (.Call (.Name xn p) [e] [] pos)) pos2] pos'] [] [] pos1) (tSs X.kw (sTry i xb g)) := by
  refine (L2N.ps_try_as (i := i) (tb := fun W => tXs X.kw X.mg W xb) (ts := tsWhich X.kw X.mg g i) (Wout := fun _ _ _ _ => False) hs hfr hN hi hln hc
    (fun u s' xx => by obtain ⟨_, _, _, _, _, _, _, _, _, _, _, _, _, _, _, _, z⟩ := xx; exact z.elim) (fun W pn xe tk _ => hbody W pn xe tk)
    (fun a oe cls d pn hz hf => ps_which hT hz hf hr hb hg hm hk (hv a oe pn) hdb he)).by fun D σ H ⟨st, m, I0, H0, I, ev, x, E, fl, e', n', q, kk⟩ => ?_
  unfold sTry at q
  split at q
  · rename_i f1 e1 n1 q1
    cases q
    exact ⟨st, m, I0, H0, I, ev, x, E, .fl _, _, _, q1, kk⟩
  · rename_i c e1 n1 q1
    split at q
    · rename_i hlt
      split at q
      · rename_i r hgc
        cases q
        refine ⟨st, m, I0, H0, I, ev, x, E, .ex c, _, _, q1, fun σ' I' H' hl x' => ?_⟩
        obtain ⟨C, hC, hex, FW⟩ := hT.of c r hgc
        have ecls : clsV X.mg c = .ref C := by unfold clsV; rw [hC]; rfl
        refine ⟨true, by rw [ecls]; exact hex, fun _ a na => ⟨List.getElem?_set_self (by rw [hl]; exact hlt), rfl, c, r, rfl, hgc, st, _, I0, H0, I', x', fun v I2 H2 x2 d2 => kk v I2 H2 x2 d2 trivial⟩, fun z => Bool.noConfusion z⟩
      · cases q
    · cases q
  · cases q
end
/-! ### the classes -/
structure ErrOk (K : PySem.W.Frag) (C B : Addr) : Prop where
  xC : PySem.W.excIn K C [.type "ValueError", .type "Exception", .type "BaseException", .type "object"] "ValueError.__new__" = true
  kC : PySem.W.keepIn K (.ref C) = true
  bC : PySem.W.subIn K (.ref C) (.type "BaseException") = some true
  tC : PySem.W.typeIn K (.ref C) = some (.type "type")
  ex : ExcC K C
  te : PySem.W.exmOne K (.ref C) (.ref B) = some true
theorem kit_self {K : PySem.W.Frag} {C : Addr} : PySem.W.kitOne K (.ref C) (.ref C) = some true := by
  unfold PySem.W.kitOne
  rw [if_pos (by simp)]
theorem kit_not {K : PySem.W.Frag} {C D : Addr} (hC : PySem.W.subIn K (.ref C) (.ref C) = some true) (hi : PySem.W.isClsIn K D = true) (ht : PySem.W.typeIn K (.ref D) = some (.type "type")) (h : PySem.W.subIn K (.ref C) (.ref D) = some false) : PySem.W.kitOne K (.ref C) (.ref D) = some false := by
  have ne : C ≠ D := fun z => by subst z; rw [hC] at h; cases h
  unfold PySem.W.kitOne PySem.W.kitCls
  rw [if_neg (by simpa using ne)]
  dsimp only
  have e1 : ((PySem.W.clsIn K D).isSome && PySem.W.typeIn K (.ref D) == some (.type "type")) = true := by
    rw [ht, Bool.and_eq_true]
    exact ⟨by unfold PySem.W.isClsIn at hi; exact hi, by rfl⟩
  rw [if_pos e1]
  exact h
theorem kit_val {K : PySem.W.Frag} {C : Addr} (h : PySem.W.subIn K (.ref C) (.type "ValueError") = some true) : PySem.W.kitOne K (.ref C) (.type "ValueError") = some true := by
  unfold PySem.W.kitOne PySem.W.kitCls
  rw [if_neg (by intro z; cases (beq_iff_eq.mp z))]
  dsimp only
  rw [if_pos (by decide +kernel)]
  exact h
section
variable {X : Cx} {C : Addr} {bmB : List Value} {B newId initId : String}
theorem pmk_ownN {x m : Str} {j : Nat} {p p2 pos : Pos} (F : ExcBaseFacts B newId initId bmB) (q : PySem.W.excIn X.K C bmB newId = true) (gC : X.mg x = some (.ref C)) (kC : PySem.W.keepIn X.K (.ref C) = true) (r : Raises X (.ref C)) (hg : Gl X x)
    (hdb : (x == ("__debug__" : Str)) = false := by decide) : L2N.PMk X (.Call (.Name x p) [.Constant (.str m) j p2] [] pos) (fun _ H Q => Q (.ref C) none H) := by
  intro pins s σ H Q I h
  refine wpAny_Call_Name_kw (ld_glob I hg gC ?_ hdb)
  have ha : PA X [.Constant (.str m) j p2] (tCons (tC (.str m)) tNil) := pa_cons pe_str pa_nil
  refine PySem.W.callWith_K (h₀ := X.base) I.ok.mod.kin kC (thn (ha.run pos pins s σ H (fun vs H1 => vs = [V.str m] ∧ H = H1) I ⟨rfl, rfl⟩) fun us s1 hh => ?_)
  obtain ⟨vs, H1, I1, r1, ev, eH⟩ := hh
  subst ev
  rw [← eH] at I1
  refine ⟨I1.kIn, ?_⟩
  cases r1 with
  | cons ru rn =>
    rename_i u us'
    cases rn
    show wpAny _ _ (call (.ref C) [u]) _ _ _
    obtain ⟨bm, N, nm, qn, bs, hdct, sn, sub, ab, col, dd, k0, k1, k2, k3, k5, mN, hC, hN, hni, T⟩ := exc_obj I1.kIn q
    refine wpAny_call_exc_subT F T hC hN hni (fun h' e hm => ?_) (by show 1 ≤ sizeLine; rw [sizeLine_eq]; omega)
    exact L2N.mk_of I1 hm r h (I1.hok.gone hm.new)
end
theorem ps_raiseN {X : Cx} {W : WX} {e : Expr} {C : Addr} {pos : Pos} (hc : X.calm = true) (tk : L2N.Takes X W) (he : L2N.PMk X e (fun _ H Q => Q (.ref C) none H)) : PS X (.Raise (some e) none pos) (fun _ σ H => W (.ref C) none σ H) := L2N.ps_raise hc tk he
def raisedD (i : Int) : PyData := .tuple [.str "raised", .int i]
theorem fIsE_kn {a : Addr} {b : Bool} {r : Ev} {n : Nat} : fIsE 0 a b (some (.kn (.ref a)) :: r) n = some (.d (.bool b), n) := by simp [fIsE]
theorem seq_go {a b : FS} {e e1 : Ev} {n n1 : Nat} {r : Option (Fl × Ev × Nat)} (h : a e n = some (.nx, e1, n1)) (g : b e1 n1 = r) : sSeq a b e n = r := by
  unfold sSeq
  rw [h]
  exact g
end Sb
/-! P51: a list comprehension whose item may raise. -/
namespace Sb
open PySem PySem.Spec PyProof.Rows L2
/-- the end of a comprehension's block; F: the def's frame -/
def compPostX (M : Model) (A : Around) (E : Value → Shared → Prop) (F : Option Addr) (use : Option (Value → Sem Unit)) (Q : Value → Shared → Prop) (acc : Value) (C : Addr) (r : Result) (s' : Shared) : Prop :=
  match r with
  | .ok _ => (match use with
    | none => ∃ m, s'.heap.Ns C m ∧ ∀ h', Heap.SameBut C s'.heap h' → Q acc { s' with heap := h' }
    | some u => wpAny M A (u acc) (fun _ s'' => ∃ m, s''.heap.Ns C m ∧ ∀ h', Heap.SameBut C s''.heap h' → Q .none { s'' with heap := h' }) E s')
  | .error x => ∃ m, s'.heap.Ns C m ∧ ∀ h', Heap.SameBut C s'.heap h' → ∀ cenv : Env, cenv.frame = F → wpAny M A (passOn "comprehension.variables-let-go" x cenv : Sem Value) (fun _ _ => False) E { s' with heap := h' }
theorem wpAny_comprehensionX {M : Model} {A : Around} {E : Value → Shared → Prop} {s : Shared} {env : Env} {e : Expr} {scope : Scope} {pos : Pos} {newAcc first : Sem Value} {g : Comprehension} {gs : List Comprehension} {cl : List (Str × Addr)} {use : Option (Value → Sem Unit)} {Q : Value → Shared → Prop}
    (hcl : clausesOf e = g :: gs) (hs : ∀ x, foldedSetIterable g.iter env x = pure x) (hclos : closureFor scope env = pure cl)
    (hkind : scope.kind = .function) (hnames : ∀ x ∈ scope.names, x.2 = .local → scope.names.lookup x.1 = some .local)
    (h : wpAny M A first (fun x s₁ => wpAny M A (pyIter x) (fun it s₂ => wpAny M A newAcc (fun acc s₃ =>
      wpAny M A (newFunctionEnv scope env.globals cl [] env.qual none .none (some env)) (fun cenv s₄ => cenv.frame = env.frame ∧
        codeAny M A (.compStart e 0 it acc { cenv with scope := relabel scope env }) (compPostX M A E env.frame use Q acc cenv.locals) s₄) E s₃) E s₂) E s₁) E s) :
    wpAny M A (comprehension e scope env pos newAcc false first use) Q E s := by
  unfold comprehension
  rw [hclos, hcl]
  refine wpAny_bind (wpAny_mono h (fun x s₁ h₁ => wpAny_bind (wpAny_standAt (wpAny_bind (wpAny_of_eq (hs x) (wpAny_bind (wpAny_holding (wpAny_mono h₁ (fun it s₂ h₂ =>
    wpAny_standIf (wpAny_bind (wpAny_mono h₂ (fun acc s₃ h₃ => wpAny_bind (wpAny_pure (wpAny_bind (wpAny_mono h₃ (fun cenv s₄ h₄ => ?_) fun _ _ h' => h')))) fun _ _ h' => h')))
      fun _ _ h' => h'))))))) fun _ _ h' => h')
  obtain ⟨hfr, h₄⟩ := h₄
  dsimp only
  have hv : ∀ x ∈ (scope.names.filter fun x => (x.2 == .local || x.2 == .cell) && x.1 != (".0" : Str)).reverse, x.2 = .local →
      Env.kindOf { cenv with scope := relabel scope env } x.1 = some .local := fun x hx hl => lookup_relabel_local (hnames x (List.mem_filter.mp (List.mem_reverse.mp hx)).1 hl)
  refine wpAny_holding (wpAny_bind (wpAny_attempt (wpAny_holding (wpAny_run (codeAny_mono h₄ fun r s' hr => ?_)))))
  cases r with
  | ok f =>
    cases use with
    | none =>
      obtain ⟨m, hn, hr⟩ := hr
      exact wpAny_bind (wpAny_holding (wpAny_comp_letGo (cenv := { cenv with scope := relabel scope env }) hkind _ s' m hv hn fun h' m' _ hs' => wpAny_pure (hr h' hs')))
    | some u =>
      refine wpAny_bind (wpAny_rule (wpAny_bind (wpAny_holding (wpAny_mono hr (fun _ s'' hu => ?_) fun _ _ y => y))))
      obtain ⟨m, hn, hu⟩ := hu
      exact wpAny_bind (wpAny_comp_letGo (cenv := { cenv with scope := relabel scope env }) hkind _ s'' m (fun x hx => (List.mem_append.mp hx).elim (fun z => hv x (List.mem_of_mem_drop z)) fun z => hv x (List.mem_of_mem_take z)) hn fun h' m' _ hs' => wpAny_pure (hu h' hs'))
  | error x =>
    obtain ⟨m, hn, hr⟩ := hr
    exact wpAny_bind (wpAny_holding (wpAny_comp_letGo (cenv := { cenv with scope := relabel scope env }) hkind _ s' m hv hn fun h' m' _ hs' => wpAny_mono (hr h' hs' { cenv with scope := relabel scope env } hfr) (fun _ _ f => f.elim) fun _ _ y => y))
end Sb
/-! P51b: an exception of a call out of a comprehension's block. -/
namespace Sb
open PySem PySem.Spec PyProof.Rows L2
theorem noteFrame_eq {e : Value} {c d : Env} (h : c.frame = d.frame) : noteFrame e c = noteFrame e d := by
  unfold noteFrame PySem.frameOf
  rw [h]
theorem funFrames_but {h h' B : Heap} {C : Addr} (k : ∀ b o, b ≠ C → h.get? b = some o → (∀ vs, o.data ≠ .fields vs) → ∃ o', h'.get? b = some o' ∧ o'.data = o.data) : ∀ {l : List Env}, C ∉ frs l → h.FunFrames B l → h'.FunFrames B l
  | [], _, _ => trivial
  | env :: rest, hC, ⟨h1, ⟨L, o, e1, e2, e3, e4⟩, h3⟩ => by
    have hL : L ≠ C := fun z => hC (by
      unfold frs
      rw [List.filterMap_cons, e1, z]
      exact List.mem_cons_self ..)
    obtain ⟨o', q1, q2⟩ := k L o hL e3 e4
    refine ⟨h1, ⟨L, o', e1, e2, q1, fun vs => by rw [q2]; exact e4 vs⟩, funFrames_but k (fun z => hC ?_) h3⟩
    unfold frs at z ⊢
    rw [List.filterMap_cons, e1]
    exact List.mem_cons_of_mem _ z
theorem funFrames_less {h B B' : Heap} (k : ∀ b, B.get? b = none → B'.get? b = none) : ∀ {l : List Env}, h.FunFrames B l → h.FunFrames B' l
  | [], _ => trivial
  | _ :: _, ⟨h1, ⟨L, o, e1, e2, e3, e4⟩, h3⟩ => ⟨h1, ⟨L, o, e1, k L e2, e3, e4⟩, funFrames_less k h3⟩
theorem traced_but {h h' B : Heap} {a C : Addr} {Z : Obj → Prop} {fl : Value} (k : ∀ b o vs, b ≠ C → h.get? b = some o → o.data = .fields vs → h'.get? b = some o) (hC : ∃ o, h.get? C = some o ∧ ∀ vs, o.data ≠ .fields vs) (t : HandSPX.TracedZ h B a Z fl) : HandSPX.TracedZ h' B a Z fl := by
  obtain ⟨oe, vs, T, oT, ts, he, hz, hd, h1, hnT, hTe, hT, hdT, h3⟩ := t
  obtain ⟨oC, eC, nC⟩ := hC
  have ne : ∀ b o vs, h.get? b = some o → o.data = .fields vs → b ≠ C := fun b o vs e d z => by
    subst z
    rw [eC] at e
    cases e
    exact nC vs d
  exact ⟨oe, vs, T, oT, ts, k _ _ _ (ne _ _ _ he hd) he hd, hz, hd, h1, hnT, hTe, k _ _ _ (ne _ _ _ hT hdT) hT hdT, hdT, h3⟩
theorem traced_less {h B B' : Heap} {a : Addr} {Z : Obj → Prop} {fl : Value} (k : ∀ b, B.get? b = none → B'.get? b = none) (t : HandSPX.TracedZ h B a Z fl) : HandSPX.TracedZ h B' a Z fl := by
  obtain ⟨oe, vs, T, oT, ts, he, hz, hd, h1, hnT, r⟩ := t
  exact ⟨oe, vs, T, oT, ts, he, hz, hd, h1, k T hnT, r⟩
/-- the heap without one object -/
theorem without (h : Heap) (C : Addr) : ∃ G : Heap, (∀ b, b ≠ C → G.get? b = h.get? b) ∧ G.get? C = none := by
  obtain ⟨G, g1, g2⟩ := restrict h fun b => !(b == C)
  exact ⟨G, fun b hb => g1 b (by simpa using hb), g2 C (by simp)⟩
section
variable {X : Cx} {W : WX} {pins : List (Addr × Obj)} {σ : L2.St} {H0 : Hp} {s0 s1 : Shared} {C : Addr} {m : Str → Option Value}
/-- the call's exception, the block's dict taken away -/
theorem cx_without {E : XK} {u : Value} {G0 G1 : Heap} (g0 : ∀ b, b ≠ C → G0.get? b = s0.heap.get? b) (g0C : G0.get? C = none) (g1 : ∀ b, b ≠ C → G1.get? b = s1.heap.get? b)
    (hn : s0.heap.Ns C m) (hC : H0 C = none) (hfs : C ∉ frs X.stack) (c : L2N.CX X.prog X.w X.stack H0 s0 E u s1) :
    L2N.CX X.prog X.w X.stack H0 { s0 with heap := G0 } E u { s1 with heap := G1 } ∧ s1.heap.Ns C m := by
  obtain ⟨a, B, H', cls, d, rfl, ⟨f1, f2, f3, f4⟩, hok, ub, na, os, ag, hE⟩ := c
  have hk : ∀ o, s0.heap.get? C = some o → s1.heap.get? C = some o := fun o e => f1 C o (ub.keep C o e hC hfs)
  have hn1 : s1.heap.Ns C m := hn.at hk
  have hCo : ∃ o, s1.heap.get? C = some o ∧ ∀ vs, o.data ≠ .fields vs := by
    obtain ⟨o, es, ep, e, dd, _⟩ := hn1
    exact ⟨o, e, fun vs z => by rw [dd] at z; cases z⟩
  have hC' : H' C = none := by
    obtain ⟨o, es, ep, e, dd, _⟩ := hn
    exact ub.free C o e hC
  obtain ⟨B', b1, b2⟩ := without B C
  have le : ∀ b, B.get? b = none → B'.get? b = none := fun b e => by
    by_cases z : b = C
    · rw [z]; exact b2
    · rw [b1 b z]; exact e
  have nB : ∀ b o, B'.get? b = some o → b ≠ C := fun b o e z => by rw [z, b2] at e; cases e
  have n0 : ∀ b o, G0.get? b = some o → b ≠ C := fun b o e z => by rw [z, g0C] at e; cases e
  refine ⟨⟨a, B', H', cls, d, rfl, ⟨fun b o e => ?_, le _ f2, funFrames_less le (funFrames_but (C := C) (fun b o hb e _ => ⟨o, by rw [g1 b hb]; exact e, rfl⟩) hfs f3), traced_less le (traced_but (fun b o vs hb e _ => by rw [g1 b hb]; exact e) hCo f4)⟩, ?_, ?_, na, os, ag, hE⟩, hn1⟩
  · have z := nB b o e
    show G1.get? b = some o
    rw [g1 b z]
    rw [b1 b z] at e
    exact f1 b o e
  · exact fun b o e => (hok b o e).stay (fun b2' u hb e2 => by
      have z : b2' ≠ C := fun z => by
        rcases hb with hb | hb
        · rw [hb] at z
          rw [z, hC'] at e
          cases e
        · rw [z, hC'] at hb
          cases hb
      rw [b1 _ z]
      exact e2) (fun _ q => q) fun _ _ q => q
  · refine ⟨fun b o e n hb => ?_, fun b o e hb => ?_, fun b o e n => ?_, fun b o e hb => ?_, ub.tups, ub.frzs, ub.tbls⟩
    · have z := n0 b o e
      rw [b1 b z]
      exact ub.keep b o (by rw [← g0 b z]; exact e) n hb
    · have z := n0 b o e
      obtain ⟨sl, q⟩ := ub.slot b o (by rw [← g0 b z]; exact e) hb
      exact ⟨sl, by show G1.get? b = _; rw [g1 b z]; exact q⟩
    · have z := n0 b o e
      exact ub.free b o (by rw [← g0 b z]; exact e) n
    · have z := n0 b o e
      obtain ⟨o', q⟩ := ub.there b o (by rw [← g0 b z]; exact e) hb
      exact ⟨o', by rw [b1 b z]; exact q⟩
/-- noted by the block, handed on by the def -/
theorem block_air (hs : X.stack = X.env :: X.outer) (hf : X.env.frame = some X.env.locals) (tk : L2N.Takes X W) (I : Inv X pins σ H0 s0) (f : FpOk X pins H0 C) (hn : s0.heap.Ns C m) {ce : Env} (hce : ce.frame = X.env.frame) {u : Value}
    (c : L2N.CX X.prog X.w X.stack H0 s0 (fun cl d H => W cl d σ H) u s1) {use : Option (Value → Sem Unit)} {Qf : Value → Shared → Prop} {acc : Value} :
    notedBy (model X.prog X.w) X.A ce (fun e s' => compPostX (model X.prog X.w) X.A X.xe X.env.frame use Qf acc C (.error e) s') u s1 := by
  obtain ⟨f0, f1, f2, f3, f4, f5⟩ := f
  have hfs : C ∉ frs X.stack := by
    rw [hs]
    intro z
    unfold frs at z
    rw [List.filterMap_cons, hf] at z
    rcases List.mem_cons.mp z with z | z
    · exact f1 z
    · exact f2 z
  have hfr : X.A.frames = some (X.env :: X.outer) := by rw [I.ok.frames, hs]
  obtain ⟨G0, g0, g0C⟩ := without s0.heap C
  obtain ⟨G1, g1, g1C⟩ := without s1.heap C
  obtain ⟨c8, hn1⟩ := cx_without g0 g0C g1 hn f0 hfs c
  have I8 : Inv X pins σ H0 { s0 with heap := G0 } := I.turned (t' := s0.toks) (fun b o hb e => (g0 b hb).trans e) f0 f1 f3 f4 f5
  obtain ⟨a, B, sI, pins', σ', H', cls, d, rfl, J, nb, up, sky, na, os, ag, w⟩ := L2N.XE.of_call (W := W) I8 (fun _ _ _ h => h) c8
  have nG : ∀ b o, G1.get? b = some o → b ≠ C := fun b o e z => by rw [z, g1C] at e; cases e
  have kG : ∀ b o, G1.get? b = some o → s1.heap.get? b = some o := fun b o e => by rw [← g1 b (nG b o e)]; exact e
  have kT : ∀ {fl : Value}, HandSPX.TracedZ G1 B a (L2N.Zn cls d) fl → HandSPX.TracedZ s1.heap B a (L2N.Zn cls d) fl := fun {fl} ⟨oe, vs, T, oT, ts, he, hz, hd, h1, hnT, hTe, hT, r⟩ => ⟨oe, vs, T, oT, ts, kG _ _ he, hz, hd, h1, hnT, hTe, kG _ _ hT, r⟩
  have kF : G1.FunFrames B X.stack → s1.heap.FunFrames B X.stack := fun z => Heap.FunFrames.of_keeps (fun b o e _ => ⟨o, kG b o e, rfl⟩) z
  have hB : B.get? C = none := by
    have st : B.StaysIn G1 := by
      rcases sky with z | z | z
      · exact z.1
      · exact z.1
      · exact z.1
    cases q : B.get? C with
    | none => rfl
    | some o => exact absurd rfl (nG C o (st C o q))
  have sky1 : Sky B X.stack a (L2N.Zn cls d) X.env.locals s1.heap := by
    rcases sky with ⟨st, hB, ff, oe, vs, he, r⟩ | ⟨st, hB, ff, t⟩ | ⟨st, hB, ff, t⟩
    · exact .inl ⟨fun b o e => kG b o (st b o e), hB, kF ff, oe, vs, kG _ _ he, r⟩
    · exact .inr (.inl ⟨fun b o e => kG b o (st b o e), hB, kF ff, kT t⟩)
    · exact .inr (.inr ⟨fun b o e => kG b o (st b o e), hB, kF ff, kT t⟩)
  have fin : ∀ h1, HandSPX.HeldZ B (X.env :: X.outer) a (L2N.Zn cls d) X.env.locals h1 → s1.heap.UpToSlots h1 → compPostX (model X.prog X.w) X.A X.xe X.env.frame use Qf acc C (.error (.ref a)) { s1 with heap := h1 } := by
    rintro h1 ⟨k1, k2, k3, k4⟩ upA
    obtain ⟨o, es, ep, e, dd, kk, ff⟩ := hn1
    obtain ⟨sl, e2⟩ := upA C o e fun vs z => by rw [dd] at z; cases z
    refine ⟨m, ⟨_, es, ep, e2, dd, kk, ff⟩, fun h' sb cenv hcf => ?_⟩
    have hCo : ∃ o, h1.get? C = some o ∧ ∀ vs, o.data ≠ .fields vs := ⟨_, e2, fun vs z => by
      have z : o.data = .fields vs := z
      rw [dd] at z
      cases z⟩
    have held : HandSPX.HeldZ B (X.env :: X.outer) a (L2N.Zn cls d) X.env.locals h' :=
      ⟨fun b o e => (sb.2 b fun z => by rw [z, hB] at e; cases e).trans (k1 b o e), k2, funFrames_but (C := C) (fun b o hb e _ => ⟨o, (sb.2 b hb).trans e, rfl⟩) (by rw [← hs]; exact hfs) k3, traced_but (fun b o vs hb e _ => (sb.2 b hb).trans e) hCo k4⟩
    obtain ⟨oe, vs, T, oT, ts, he, hz, hd, h1', hr⟩ := id held.2.2.2
    unfold PySem.passOn
    refine wpAny_bind (wpAny_field he hd h1' ?_)
    rw [if_neg (show ¬ ((Value.ref T == Value.none) = true) from by simp)]
    have fin2 : wpAny (model X.prog X.w) X.A (setFlight (.ref a) cenv.frame) (fun _ s4 => wpAny (model X.prog X.w) X.A (throw (.ref a) : Sem Value) (fun _ _ => False) X.xe s4) X.xe { s1 with heap := h' } := by
      rw [hcf, hf]
      refine HandSPX.setFlight_onZ held fun h4 hh4 up4 => wpAny_throw (tk _ _ ?_)
      refine ⟨a, B, sI, pins', σ', H', cls, d, rfl, J, nb, fun b o e hnf => ?_, .inr (.inr (by rw [hs]; exact hh4)), na, os, ag, w⟩
      obtain ⟨sl1, q1⟩ := up b o e hnf
      have nb' := nG b _ q1
      obtain ⟨sl2, q2⟩ := upA b _ (kG b _ q1) hnf
      obtain ⟨sl3, q3⟩ := up4 b _ ((sb.2 b nb').trans q2) hnf
      exact ⟨sl3, q3⟩
    first
      | exact wpAny_bind (wpAny_pure (wpAny_bind fin2))
      | exact wpAny_bind fin2
  unfold notedBy
  rw [noteFrame_eq hce]
  rw [hs] at sky1
  rcases sky1 with ⟨hB, hn, hl, oe, vs, he, hz, hd, h1⟩ | fl | hh
  · exact PXN.look_newZ L2N.Zn.steady hfr hl hf he hB hn hd h1 hz fin
  · exact PXN.looks_onZ L2N.Zn.steady hfr hf fl fin
  · exact HandSPX.againZ hf hh.2.2.2 (fin s1.heap hh (Heap.UpToSlots.refl _))
end
end Sb
/-! P51c: a list comprehension of one clause whose item lets a call's exception out. -/
namespace Sb
open PySem PySem.Spec PyProof.Rows L2
section
variable {X : Cx} {W : WX}
theorem inv_xe {pins : List (Addr × Obj)} {σ : L2.St} {H : Hp} {s : Shared} {xe' : Value → Shared → Prop} (I : Inv X pins σ H s) : Inv { X with xe := xe' } pins σ H s := by
  obtain ⟨⟨o1, o2, o3, o4, o5, o6, o7, o8, o9, o10, o11, o12, o13, o14, o15, o16, o17, o18⟩, i2, i3, i4, i5, i6, i7, i8, i9, i10, i11⟩ := I
  exact ⟨⟨o1, o2, o3, o4, o5, o6, o7, o8, o9, o10, o11, o12, o13, o14, o15, o16, o17, o18⟩, i2, i3, i4, i5, i6, i7, i8, i9, i10, i11⟩
theorem inv_xe' {pins : List (Addr × Obj)} {σ : L2.St} {H : Hp} {s : Shared} {xe' : Value → Shared → Prop} (I : Inv { X with xe := xe' } pins σ H s) : Inv X pins σ H s := by
  obtain ⟨⟨o1, o2, o3, o4, o5, o6, o7, o8, o9, o10, o11, o12, o13, o14, o15, o16, o17, o18⟩, i2, i3, i4, i5, i6, i7, i8, i9, i10, i11⟩ := I
  exact ⟨⟨o1, o2, o3, o4, o5, o6, o7, o8, o9, o10, o11, o12, o13, o14, o15, o16, o17, o18⟩, i2, i3, i4, i5, i6, i7, i8, i9, i10, i11⟩
/-- what the block's item may let out: a call's exception -/
def Out (Y : Cx) (W : WX) (σ : L2.St) (u : Value) (s' : Shared) : Prop := ∃ (pins : List (Addr × Obj)) (σb : L2.St) (H0 : Hp) (s0 : Shared), Inv Y pins σb H0 s0 ∧ L2N.CX Y.prog Y.w Y.stack H0 s0 (fun c d H => W c d σ H) u s'
/-- what is asked of the item: in a block whose calls may raise -/
def ItemX (X : Cx) (scope : Scope) (elt : Expr) (te : WX → TE) : Prop := ∀ (s : Shared) (H : Hp) (C : Addr) (cl : List (Str × Addr)) (fp : List Addr) (W' : WX) (xe' : Value → Shared → Prop),
  (∀ σ', PassesAt (L2N.CX X.prog X.w) { X.blk s H scope (compEnvC scope cl C X.env) fp with xe := xe' } σ' (WE W' σ')) → PE { X.blk s H scope (compEnvC scope cl C X.env) fp with xe := xe' } elt (te W')
theorem lc_coreX {pins : List (Addr × Obj)} {s : Shared} {σ : L2.St} {H : Hp} {Q : VK} {elt tg iter : Expr} {ifs : List Expr} {scope : Scope} {own : List (Str × Nat)} {pos pos' : Pos} {wi : TI} {g : TG} {tt : TT} {te : WX → TE} {use : Option (Value → Sem Unit)} {Qf : Value → Shared → Prop}
    (hc : X.calm = true) (hN : X.N.Nodup) (hst : X.stack = X.env :: X.outer) (hfr : X.env.frame = some X.env.locals) (tk : L2N.Takes X W) (I : Inv X pins σ H s) (hi : PI X tg iter wi) (ok : BlkOk X.N X.env.scope scope own)
    (hg : ∀ (s : Shared) (H : Hp) (C : Addr) (cl : List (Str × Addr)) (fp : List Addr), PG (X.blk s H scope (compEnvC scope cl C X.env) fp) tg g) (ht : ∀ (s : Shared) (H : Hp) (C : Addr) (cl : List (Str × Addr)) (fp : List Addr), PTs (X.blk s H scope (compEnvC scope cl C X.env) fp) ifs tt)
    (he : ItemX X scope elt te) (hs : ∀ x, foldedSetIterable iter X.env x = pure x)
    (h : tLc wi g tt (te fun c d _ H => W c d σ H) (own.map (·.2)) σ H Q)
    (hRR : ∀ D C s' m H', Inv X pins σ H' s' → Q (.ref D) H' → s'.heap.Ns C m → FpOk X pins H' C → compPostX (model X.prog X.w) X.A X.xe X.env.frame use Qf (.ref D) C (.ok .next) s') :
    wpAny (model X.prog X.w) X.A (comprehension (.ListComp elt [⟨tg, iter, ifs, 0⟩] scope pos) scope X.env pos' (newList []) false (eval iter X.env) use) Qf X.xe s := by
  have cells : ∀ y ∈ scope.names, y.2 = .free → ∃ c, X.env.cells.lookup y.1 = some c := fun y hy e => by
    rcases ok.free y hy e with k | k
    · exact I.ok.has _ (.inl k)
    · exact I.ok.has _ (.inr k)
  refine wpAny_comprehensionX rfl hs (closure_ok cells) ok.kind (fun y hy e => by rw [ok.uniq y hy, e]) (thn (hi.run pins s σ H _ I h) fun xv s1 hx => thn hx fun itv s2 h2 => ?_)
  obtain ⟨it, fp, tn, J, H2, e, I2, T, st2, f2, q⟩ := h2
  subst e
  refine wpAny_newObj_type (newEnv_comp ⟨rfl, ?_⟩) (by show 0 ≤ sizeLine; decide)
  generalize hD : s2.heap.objs.size = D
  obtain ⟨V, ⟨m0, v0⟩, turn⟩ := q D (I2.hok.fresh (Nat.le_of_eq hD))
  generalize e3 : ({ s2 with heap := s2.heap.push { cls := .type "list", data := .seq ([] : List Value).toArray } } : Shared) = s3
  have I3 : Inv X pins σ (upd H2 D (.lst [])) s3 := by
    rw [← e3]
    refine I2.laid (t' := s2.toks) (fun b o e => Heap.get?_push_of_some _ e) (Nat.le_of_eq hD) ⟨Nat.zero_le _, [], 0, .nil, ?_⟩
    rw [← hD]
    exact Heap.get?_push_size _ rfl
  have hp3 : s3.heap = s2.heap.push { cls := .type "list", data := .seq ([] : List Value).toArray } := by rw [← e3]
  have lt2 : ∀ b ∈ fp, b < s2.heap.objs.size := fun b hb => (T.obj _ _ st2 b hb).elim fun _ z => Heap.lt_size z.1
  have f3 : ∀ b ∈ fp, FpOk X pins (upd H2 D (.lst [])) b ∧ b < s3.heap.objs.size := fun b hb => by
    have z := lt2 b hb
    exact ⟨⟨by rw [upd_ne (by rw [← hD]; exact Nat.ne_of_lt z)]; exact (f2 b hb).1, (f2 b hb).2⟩, by rw [hp3, Heap.size_push]; exact Nat.lt_succ_of_lt z⟩
  have st3 : tn 0 s3.heap := T.keep _ _ _ st2 fun b _ o e => by rw [hp3]; exact Heap.get?_push_of_some _ e
  have I4 := block_start I3 ok hN f3
  generalize hcl : cellsFrom (s3.heap.objs.size + 1) scope.names (cloFrom X.env.cells scope.names []) = cl at I4
  have pg := hg s3 (upd H2 D (.lst [])) s3.heap.objs.size cl fp
  have pt := ht s3 (upd H2 D (.lst [])) s3.heap.objs.size cl fp
  have pe := he s3 (upd H2 D (.lst [])) s3.heap.objs.size cl fp (fun c d _ H => W c d σ H) (Out (X.blk s3 (upd H2 D (.lst [])) scope (compEnvC scope cl s3.heap.objs.size X.env) fp) W σ)
    fun σ' pins' H' s' u s'' J' c => ⟨pins', σ', H', s', inv_xe' J', c⟩
  show codeAny _ _ (.compStart (.ListComp elt [⟨tg, iter, ifs, 0⟩] scope pos) 0 (.ref it) (.ref D) (compEnvC scope cl s3.heap.objs.size X.env)) (compPostX (model X.prog X.w) X.A X.xe X.env.frame use Qf (.ref D) s3.heap.objs.size) { s3 with heap := pushCells (s3.heap.push { cls := .type "dict", data := .dict #[] }) scope.names }
  have nfp : ∀ b ∈ fp, (upd H2 D (.lst [])) b = none := fun b hb => (f3 b hb).1.1
  generalize hce : compEnvC scope cl s3.heap.objs.size X.env = ce at I4 pg pt pe ⊢
  have cL : ce.locals = s3.heap.objs.size := by subst hce; rfl
  have cF : ce.frame = X.env.frame := by subst hce; rfl
  generalize hH3 : upd H2 D (.lst []) = H3 at I3 I4 pg pt pe v0 nfp f3
  generalize e4 : ({ s3 with heap := pushCells (s3.heap.push { cls := .type "dict", data := .dict #[] }) scope.names } : Shared) = s4 at I4 ⊢
  have st4 : tn 0 s4.heap := T.keep _ _ _ st3 fun b _ o e => by rw [← e4]; exact pushCells_keeps _ _ _ _ (Heap.get?_push_of_some _ e)
  generalize hY : X.blk s3 H3 scope ce fp = Y at I4 pg pt pe
  have yFp : ∀ {σ' : L2.St} {H' : Hp} {s' : Shared}, Inv Y [] σ' H' s' → (∀ b ∈ fp, H' b = none) → ∀ b ∈ fp, FpOk Y [] H' b := fun {σ' H' s'} I' hn b hb => by
    subst hY
    exact ⟨hn b hb, (I'.ok.exf b hb).1, I'.ok.exfs b hb, .inl hb, fun x c e => (I'.ok.exf b hb).2 x c e, fun p hp => absurd (show p ∈ ([] : List (Addr × Obj)) ++ [] from hp) (by simp)⟩
  -- back in the def's context
  have back : ∀ {pins' : List (Addr × Obj)} {σ' : L2.St} {H' : Hp} {s' : Shared}, Inv Y pins' σ' H' s' → Inv X pins σ H' s' ∧ FpOk X pins H' s3.heap.objs.size ∧ ∃ m, s'.heap.Ns s3.heap.objs.size m := fun {pins' σ' H' s'} I' => by
    subst hY
    have I7 : Inv X pins σ H' s' := I3.call' (ch := fp) I'.os I'.base I'.hok I'.bare fun b hb => ⟨(f3 b hb).1.2.2.2.1, (f3 b hb).1.2.1, (f3 b hb).1.2.2.2.2.1, (f3 b hb).1.2.2.2.2.2⟩
    have nC : H' s3.heap.objs.size = none := by
      have z : H' ce.locals = none := I'.free
      rw [cL] at z
      exact z
    obtain ⟨m, hn, _⟩ := I'.loc
    have hn : s'.heap.Ns ce.locals m := hn
    rw [cL] at hn
    exact ⟨I7, I3.fpOk (Nat.le_refl _) nC, m, hn⟩
  have yp : Y.prog = X.prog ∧ Y.w = X.w ∧ Y.A = X.A ∧ Y.stack = X.stack ∧ Y.K = X.K ∧ Y.calm = X.calm ∧ Y.env = ce ∧ Y.xe = fun _ _ => False := by
    subst hY
    exact ⟨rfl, rfl, rfl, rfl, rfl, rfl, rfl, rfl⟩
  have loop : codeAny (model X.prog X.w) X.A (.compLoop (.ListComp elt [⟨tg, iter, ifs, 0⟩] scope pos) 0 (.ref it) (.ref D) ce) (compPostX (model X.prog X.w) X.A X.xe X.env.frame use Qf (.ref D) s3.heap.objs.size) s4 := by
    refine compLoop_any (fun n s' => ∃ i H', Inv Y [] (wipe σ (own.map (·.2))) H' s' ∧ tn i s'.heap ∧ (∀ b ∈ fp, H' b = none) ∧ V i n H') ?_ m0 ⟨0, H3, I4, st4, nfp, v0⟩
    rintro n s5 ⟨i, H5, I5, st5, n5, w5⟩
    subst hY
    rcases turn i n H5 w5 with ⟨stop, qq⟩ | ⟨go, Nx, hNx, step⟩
    · refine thnF (T.done (X.blk s3 H3 scope ce fp) rfl rfl rfl hc i [] s5 _ H5 (fun _ _ => False) I5 (yFp I5 n5) st5 stop) fun r s6 ⟨hr, I6⟩ => ?_
      subst hr
      obtain ⟨I7, f7, m, hn⟩ := back I6
      exact hRR D s3.heap.objs.size s6 m H5 I7 qq hn f7
    · refine thnF (T.item (X.blk s3 H3 scope ce fp) rfl rfl rfl hc i [] s5 _ H5 (fun _ _ => False) I5 (yFp I5 n5) st5 go) fun r s6 ⟨u, hr, h6⟩ => ?_
      subst hr
      refine thnF h6 fun _ s7 ⟨x, H7, I7, r7, y7, st7, n7⟩ => ?_
      have I7' := I7.pinned (yFp I7 n7) (T.obj _ _ st7)
      refine thnF (pg.run _ s7 _ H7 x u _ I7' r7 (step x H7 y7)) fun _ s8 ⟨σ8, H8, I8, hw8, q8⟩ => ?_
      refine thnF (pt.run _ s8 σ8 H8 _ I8 q8) fun b s9 ⟨H9, I9, q9⟩ => ?_
      have fin : ∀ {s' : Shared} {H' : Hp}, Inv (X.blk s3 H3 scope ce fp) ([] ++ pinsAt fp s7.heap) σ8 H' s' → Nx H' → ∃ m, m < n ∧ ∃ i H', Inv (X.blk s3 H3 scope ce fp) [] (wipe σ (own.map (·.2))) H' s' ∧ tn i s'.heap ∧ (∀ b ∈ fp, H' b = none) ∧ V i m H' := fun {s' H'} I' nx => by
        obtain ⟨m', hm, w'⟩ := hNx H' nx
        have at_ : ∀ b ∈ fp, ∀ o, s7.heap.get? b = some o → s'.heap.get? b = some o ∧ H' b = none := fun b hb o e => (I'.pin (b, o) (List.mem_append_right _ (List.mem_append_right _ (mem_pinsAt hb e)))).imp id And.left
        have hl : (wipe σ (own.map (·.2))).length = σ8.length := by rw [← hw8, wipe_length]
        refine ⟨m', hm, i + 1, H', (I'.unpinned (pins := [])).weak hl (fun j v e => ?_), T.keep _ _ _ st7 fun b hb o e => (at_ b hb o e).1, fun b hb => ?_, w'⟩
        · rw [← hw8] at e
          exact (wipe_some e).1
        · obtain ⟨o, e, _⟩ := T.obj _ _ st7 b hb
          exact (at_ b hb o e).2
      cases b with
      | false =>
        simp only [Bool.false_eq_true, if_false] at q9 ⊢
        exact fin I9 q9
      | true =>
        simp only [if_true] at q9 ⊢
        refine wpAny_mono (pe.run _ s9 σ8 H9 _ (inv_xe I9) q9) (fun z s10 ⟨yv, H10, I10, r10, acc, hD10, hz10, nx⟩ => ?_) fun u' s10 ⟨pins', σb, H10, s0', Ib, c⟩ => ?_
        · exact app_ok (X := X.blk s3 H3 scope ce fp) (inv_xe' I10) hD10 hz10 r10 fun s11 I11 => fin I11 nx
        · obtain ⟨I7b, f7, m, hn⟩ := back Ib
          exact block_air hst hfr tk I7b f7 hn cF c
  exact codeAny_compStart_list loop (T.self X.A 0 _ _ _ st4 loop)
end
end Sb
/-! P51d: [f(x) for x in xs] where f may raise: what it evaluates to. -/
namespace Sb
open PySem PySem.Spec PyProof.Rows L2
abbrev Lx := Sum (List PyData) Str
def glue (zs : List PyData) : Lx → Lx
  | .inl rs => .inl (zs ++ rs)
  | .inr c => .inr c
def lcLX (tg : FG) (own : List Nat) (t : FT) (f : FEX) : List PyData → Ev → Nat → Option (Lx × Nat)
  | [], _, n => some (.inl [], n)
  | x :: xs, e, n => match tg x (wipeE e own) with
    | none => none
    | some e1 => match t e1 n with
      | none => none
      | some (false, n1) => lcLX tg own t f xs e n1
      | some (true, n1) => match f e1 n1 with
        | none => none
        | some (.ex c, n2) => some (.inr c, n2)
        | some (.v sv, n2) => match sv.take with
          | none => none
          | some y => match lcLX tg own t f xs e n2 with
            | none => none
            | some (r, n3) => some (glue [y] r, n3)
def fLcX (it : FI) (tg : FG) (own : List Nat) (t : FT) (f : FEX) : FEX := fun e n => match it e n with
  | none => none
  | some (xs, n1) => if xs.length ≤ big then match lcLX tg own t f xs e n1 with
      | none => none
      | some (.inl ys, n2) => some (.v (.cell ys), n2)
      | some (.inr c, n2) => some (.ex c, n2)
    else none
theorem glue_nil (r : Lx) : glue [] r = r := by cases r <;> rfl
theorem glue_glue (a b : List PyData) (r : Lx) : glue a (glue b r) = glue (a ++ b) r := by
  cases r with
  | inl rs => exact congrArg Sum.inl (List.append_assoc a b rs).symm
  | inr c => rfl
theorem lc_ofX' {K : KW} {mg : Str → Option Value} {W : WX} {g : TG} {tg : FG} {sl own : List Nat} {it : FI} {t : FT} {f : FEX} (hg : GDo K g tg sl) (ho : ∀ i ∈ sl, i ∈ own) (σ : L2.St) (H : Hp) (Q : VK) {st : Stt} {n n' n1 : Nat} {H0 I : Hp} {ev : Ev} {xs : List PyData} {res : Lx}
    (w : Wr st n I H) (E : Er K st H0 I H σ ev) (q1 : it ev n = some (xs, n1)) (hlen : xs.length ≤ big) (q2 : lcLX tg own t f xs ev n1 = some (res, n'))
    (kv : ∀ ys, res = .inl ys → ∀ v I' H', Xt st n' I H I' H' → SvR K st I' H' v (.cell ys) → Fr H v (.cell ys) → Q v H')
    (kx : ∀ c, res = .inr c → ∀ I' H', Xt st n' I H I' H' → W (clsV mg c) none σ H') : tLc (tIs K true it) g (tTs K t) (tEX K mg (fun c d _ H => W c d σ H) f) own σ H Q := by
  refine ⟨st, n, H0, I, ev, w, E, xs, n1, q1, hlen, fun J I1 H1 x1 ⟨G, Y, wk, hG, hY⟩ D hD => ?_⟩
  have hs : D ≠ st := x1.w.ne_st hD
  have iD : I1 D = none := x1.w.ine hD
  have E1 := E.mono x1
  refine lc_it wk (fun i H => ∃ I' m acc zs R, Xt st m I1 H1 I' H ∧ I' D = none ∧ H D = some (.lst acc) ∧ DpAll K I' acc zs ∧ zs.length ≤ i ∧ lcLX tg own t f (xs.drop i) ev m = some (R, n') ∧ glue zs R = res)
    ⟨I1, n1, [], [], res, Xt.cell x1.w hD, iD, upd_same, .nil, Nat.zero_le _, q2, glue_nil _⟩ ?_ ?_ ?_
  · rintro i H' hi ⟨I', m, acc, zs, R, x2, i2, hacc, hd, hl, _, _⟩
    exact hG m I' H' x2.w x2.ii fun _ b o hb e => x2.hh b o hb e
  · rintro i x H' H'' hi ⟨I', m, acc, zs, R, x2, i2, hacc, hd, hl, q3, q4⟩ y
    obtain ⟨I2, d, e1, x3, kd⟩ := hY m I' H' i x H'' x2.w x2.ii (fun _ b o hb e => x2.hh b o hb e) hi y
    have hdr : xs.drop i = d :: xs.drop (i + 1) := by
      rw [List.drop_eq_getElem_cons hi]
      congr 1
      rw [List.getElem?_eq_getElem hi] at e1
      exact Option.some.inj e1
    rw [hdr] at q3
    unfold lcLX at q3
    split at q3
    · cases q3
    · rename_i ev1 p1
      have x23 := x2.trans x3
      have E3 := (E1.mono x23).wipe own
      refine hg st H0 m I2 H'' (wipe σ own) _ x d ev1 _ x3.w E3 kd p1 fun σ2 E4 kw _ => ⟨by rw [kw own ho, wipe_wipe], ?_⟩
      have hacc2 : H'' D = some (.lst acc) := x3.hh D _ hs hacc
      have i3 : I2 D = none := by rw [x3.old D _ hacc]; exact i2
      split at q3
      · cases q3
      · rename_i m1 p2
        refine ⟨st, m, H0, I2, ev1, x3.w, E4, false, m1, p2, fun I4 H4 x4 => ?_⟩
        dsimp only
        rw [if_neg Bool.false_ne_true]
        exact ⟨I4, m1, acc, zs, R, x23.trans x4, by rw [x4.old D _ hacc2]; exact i3, x4.hh D _ hs hacc2, DpAll.mono (x3.trans x4).ii _ _ hd, Nat.le_succ_of_le hl, q3, q4⟩
      · rename_i m1 p2
        refine ⟨st, m, H0, I2, ev1, x3.w, E4, true, m1, p2, fun I4 H4 x4 => ?_⟩
        dsimp only
        rw [if_pos rfl]
        split at q3
        · cases q3
        · rename_i c m2 p3
          cases q3
          exact ⟨st, m1, H0, I4, ev1, x4.w, E4.mono x4, .ex c, _, p3, fun I5 H5 x5 => kx c q4.symm I5 H5 (x1.trans (x23.trans (x4.trans x5)))⟩
        · rename_i sv m2 p3
          split at q3
          · cases q3
          · rename_i y' p4
            split at q3
            · cases q3
            · rename_i R' m3 p5
              cases q3
              refine ⟨st, m1, H0, I4, ev1, x4.w, E4.mono x4, .v sv, m2, p3, fun v I5 H5 x5 r5 f5 => ?_⟩
              obtain ⟨I6, x6, s6, k6⟩ := SvR.keep x5 r5 f5 p4
              have hacc4 : H4 D = some (.lst acc) := x4.hh D _ hs hacc2
              have hacc5 : H5 D = some (.lst acc) := x6.hh D _ hs hacc4
              have i4 : I4 D = none := by rw [x4.old D _ hacc2]; exact i3
              have i6 : I6 D = none := by rw [x6.old D _ hacc4]; exact i4
              have xx := (x23.trans x4).trans x6
              have la : acc.length < sizeLine := by
                rw [DpAll.len hd]
                have : big < sizeLine := by decide
                omega
              refine ⟨acc, hacc5, la, I6, m2, acc ++ [v], zs ++ [y'], R', xx.put hD i6 hs, i6, upd_same, DpAll.app (DpAll.mono ((x3.trans x4).trans x6).ii _ _ hd) (.cons k6 .nil), ?_, p5, ?_⟩
              · rw [List.length_append, List.length_singleton]
                omega
              · rw [← glue_glue]
                exact q4
  · rintro H' ⟨I', m, acc, zs, R, x2, i2, hacc, hd, hl, q3, q4⟩
    rw [List.drop_length] at q3
    unfold lcLX at q3
    cases q3
    exact kv _ q4.symm (.ref D) I' H' (x1.trans x2) ⟨D, acc, rfl, hacc, i2, hs, by rw [List.append_nil]; exact hd⟩ fun p ep => by rw [← V.ref.inj ep]; exact x1.free hD hs
theorem lc_ofX {K : KW} {mg : Str → Option Value} {W : WX} {g : TG} {tg : FG} {sl own : List Nat} {it : FI} {t : FT} {f : FEX} (hg : GDo K g tg sl) (ho : ∀ i ∈ sl, i ∈ own) (σ : L2.St) (H : Hp) (Q : VK) (h : tEX K mg W (fLcX it tg own t f) σ H Q) :
    tLc (tIs K true it) g (tTs K t) (tEX K mg (fun c d _ H => W c d σ H) f) own σ H Q := by
  obtain ⟨st, n, H0, I, ev, w, E, r, n', q, k⟩ := h
  unfold fLcX at q
  split at q
  · cases q
  · rename_i xs n1 q1
    split at q
    · rename_i hlen
      split at q
      · cases q
      · rename_i ys n2 q2
        cases q
        exact lc_ofX' hg ho σ H Q w E q1 hlen q2 (fun zs e => by cases e; exact k) fun c e => by cases e
      · rename_i c n2 q2
        cases q
        exact lc_ofX' hg ho σ H Q w E q1 hlen q2 (fun zs e => by cases e) fun c' e => by cases e; exact k
    · cases q
section
variable {X : Cx} {W : WX}
theorem e_lcX {elt tgE iter : Expr} {ifs : List Expr} {scope : Scope} {own : List (Str × Nat)} {pos : Pos} {g : TG} {tg : FG} {sl : List Nat} {it : FI} {t : FT} {f : FEX}
    (hs : X.stack = X.env :: X.outer) (hf : X.env.frame = some X.env.locals) (tk : L2N.Takes X W) (hg : GDo X.kw g tg sl) (ho : ∀ i ∈ sl, i ∈ own.map (·.2)) (hc : X.calm = true) (hN : X.N.Nodup) (hi : PI X tgE iter (tIs X.kw true it)) (ok : BlkOk X.N X.env.scope scope own)
    (hG : ∀ (s : Shared) (H : Hp) (C : Addr) (cl : List (Str × Addr)) (fp : List Addr), PG (X.blk s H scope (compEnvC scope cl C X.env) fp) tgE g) (ht : ∀ (s : Shared) (H : Hp) (C : Addr) (cl : List (Str × Addr)) (fp : List Addr), PTs (X.blk s H scope (compEnvC scope cl C X.env) fp) ifs (tTs X.kw t))
    (he : ItemX X scope elt fun W' => tEX X.kw X.mg W' f) (hfo : ∀ x, foldedSetIterable iter X.env x = pure x := by intro _; rfl) :
    PE X (.ListComp elt [⟨tgE, iter, ifs, 0⟩] scope pos) (tEX X.kw X.mg W (fLcX it tg (own.map (·.2)) t f)) := by
  refine ⟨fun pins s σ H Q I h => ?_⟩
  rw [eval_ListComp]
  refine lc_coreX (te := fun W' => tEX X.kw X.mg W' f) hc hN hs hf tk I hi ok hG ht he hfo (lc_ofX hg ho σ H Q h) fun D C s' m H' I' q hn fp => ⟨m, hn, fun h'' sb => ?_⟩
  obtain ⟨f0, f1, f2, f3, f4, f5⟩ := fp
  exact ⟨.ref D, H', I'.turned (t' := s'.toks) (fun b o hb e => (sb.2 b hb).trans e) f0 f1 f3 f4 f5, rfl, q⟩
/-- a call that may raise, as e_callX, its exceptions taken by a wish -/
theorem e_callP {e : Expr} {es : List Expr} {fa : FA} {k : Nat} {fn : Addr} {fd : FuncData} {ps : List Str} {x : Str} {p pos : Pos} {np : Nat} {F : FFX} (tk : ∀ σ, PassesAt (L2N.CX X.prog X.w) X σ (WE W σ)) (G : FnOk X.prog X.w X.K X.mg X.base (L2N.CX X.prog X.w) k fn fd ps (spX X.kw X.mg np F)) (hr : Room k X.A) (hg : Gl X x) (hm : X.mg x = some (.ref fn)) (hk : PySem.W.keepIn X.K (.ref fn) = true) (hb : Binds X.K fd ps [])
    (ha : PA X (e :: es) (tAs X.kw fa)) (hdb : (x == ("__debug__" : Str)) = false := by decide) (he : starEach (e :: es) X.env = (false, eval e X.env) :: starEach es X.env := by rfl) (hpl : (backTo pos (starEach es X.env)).any (·.1) = false := by rfl) :
    PE X (.Call (.Name x p) (e :: es) [] pos) (tEX X.kw X.mg W (fCallX np F fa)) := (pe_callS (E := WE W) G hr hg hm hk hb tk ha hdb he hpl).by fun σ H Q ⟨st, n, H0, I, ev, w, E, r, n', q, k⟩ => by
  unfold fCallX at q
  split at q
  · cases q
  · rename_i as n1 q1
    split at q
    · rename_i hl
      refine ⟨st, n, H0, I, ev, w, E, as, n1, q1, fun vs I1 H1 x1 r1 => ⟨by rw [r1.len]; exact hl, st, n1, I1, as, x1.w, r1, r, n', q, EndX.after x1 k⟩⟩
    · cases q
theorem asgX_of {K : KW} {mg : Str → Option Value} {i : Nat} {fx : FEX} {D : Ends} {σ : L2.St} {H : Hp} (h : tXs K mg W (xAsg i fx) D σ H) : tEX K mg W fx σ H fun x H1 => gName i x σ H1 D.nx := by
  obtain ⟨st, n, I0, H0, I, e, x, E, r, e', n', q, k⟩ := h
  unfold xAsg at q
  split at q
  · rename_i sv n1 q1
    split at q
    · rename_i ho
      cases q
      exact ⟨st, n, H0, I, e, x.w, E, _, _, q1, fun v I1 H1 x1 r1 f1 => k _ I1 H1 (x.trans x1) (E.setNew x1 x i r1 f1 ho) x1.ii⟩
    · cases q
  · rename_i c n1 q1
    cases q
    exact ⟨st, n, H0, I, e, x.w, E, _, _, q1, fun I1 H1 x1 => k σ I1 H1 E.len (x.trans x1)⟩
  · cases q
/-- name = [..] on one line, the name a local -/
theorem s_setLcX {i : Nat} {y : Str} {py : Pos} {elt tgE iter : Expr} {ifs : List Expr} {scope : Scope} {own : List (Str × Nat)} {pos spos : Pos} {g : TG} {tg : FG} {sl : List Nat} {it : FI} {t : FT} {f : FEX}
    (hs : X.stack = X.env :: X.outer) (hf : X.env.frame = some X.env.locals) (tk : L2N.Takes X W) (hg : GDo X.kw g tg sl) (ho : ∀ i ∈ sl, i ∈ own.map (·.2)) (hc : X.calm = true) (hN : X.N.Nodup) (hy : X.N[i]? = some y) (hyl : X.env.scope.names.lookup y = some .local)
    (hsw : swapsWith (.ListComp elt [⟨tgE, iter, ifs, 0⟩] scope pos) (some (.Name y py)) spos.line X.env = pure true) (hi : PI X tgE iter (tIs X.kw true it)) (ok : BlkOk X.N X.env.scope scope own)
    (hG : ∀ (s : Shared) (H : Hp) (C : Addr) (cl : List (Str × Addr)) (fp : List Addr), PG (X.blk s H scope (compEnvC scope cl C X.env) fp) tgE g) (ht : ∀ (s : Shared) (H : Hp) (C : Addr) (cl : List (Str × Addr)) (fp : List Addr), PTs (X.blk s H scope (compEnvC scope cl C X.env) fp) ifs (tTs X.kw t))
    (he : ItemX X scope elt fun W' => tEX X.kw X.mg W' f) (hfo : ∀ x, foldedSetIterable iter X.env x = pure x := by intro _; rfl) :
    PS X (.Assign [.Name y py] (.ListComp elt [⟨tgE, iter, ifs, 0⟩] scope pos) spos) (tXs X.kw X.mg W (xAsg i (fLcX it tg (own.map (·.2)) t f))) := by
  refine ⟨fun pins s σ H D I h => ?_⟩
  rw [exec_Assign_Name_used _ _ _ _ hsw]
  refine wpAny_bind (wpAny_standAt (wpAny_bind ?_))
  show wpAny _ X.A (do let _ ← comprehension (.ListComp elt [⟨tgE, iter, ifs, 0⟩] scope pos) scope X.env (firstIterPos [⟨tgE, iter, ifs, 0⟩] pos) (newList []) false (eval iter X.env) (some (assign (.Name y py) X.env))) _ _ s
  refine wpAny_bind (thn (lc_coreX (te := fun W' => tEX X.kw X.mg W' f) (Qf := fun _ s' => SP X pins D .next s') hc hN hs hf tk I hi ok hG ht he hfo (lc_ofX hg ho σ H _ (asgX_of h)) fun L C s' m H' I' q hn fp => ?_) fun _ s' hq => wpAny_pure (wpAny_pure hq))
  show wpAny _ _ (assign (.Name y py) X.env (.ref L)) _ _ _
  refine wpAny_assign_Name (store_ok2 (v := V.ref L) I' hN hy (.inl hyl) rfl (fun s2 I2 ⟨a, sb, ha⟩ => ?_) (.inr hyl))
  obtain ⟨f0, f1, f2, f3, f4, f5⟩ := fp
  have ne : C ≠ a := by
    rcases ha with z | z
    · rw [z]; exact f1
    · exact fun e => f4 y a z e.symm
  exact ⟨m, hn.sameBut sb ne, fun h3 sb3 => ⟨_, H', I2.turned (t' := s2.toks) (fun b o hb e => (sb3.2 b hb).trans e) f0 f1 f3 f4 f5, q⟩⟩
end
end Sb
/-! P54: arguments of which some may raise; tuples and tuple(..) of them. -/
namespace Sb
open PySem PySem.Spec PyProof.Rows L2
inductive Ax where
  | v (as : List Sv) | ex (c : Str)
abbrev FAX := Ev → Nat → Option (Ax × Nat)
def EndA (K : KW) (mg : Str → Option Value) (E : XK) (st : Stt) (I H : Hp) (Q : List V → Hp → Prop) (r : Ax) (n' : Nat) : Prop := match r with
  | .v as => ∀ vs I' H', Xt st n' I H I' H' → ArgsR K st I' H' vs as → Q vs H'
  | .ex c => ∀ I' H', Xt st n' I H I' H' → E (clsV mg c) none H'
def tAX (K : KW) (mg : Str → Option Value) (W : WX) (f : FAX) : TA := fun σ H Q => ∃ st n H0 I e, Wr st n I H ∧ Er K st H0 I H σ e ∧ ∃ r n', f e n = some (r, n') ∧ EndA K mg (fun c d H => W c d σ H) st I H Q r n'
section
variable {X : Cx} {W : WX} {e e2 : Expr} {es : List Expr} {fx : FEX} {fa : FA} {ga : FAX}
def axV (f : FA) : FAX := fun e n => match f e n with
  | some (as, n1) => some (.v as, n1)
  | none => none
theorem ax_v (h : PA X es (tAs X.kw fa)) : PA X es (tAX X.kw X.mg W (axV fa)) := h.by fun σ H Q ⟨st, n, H0, I, ev, w, E, r, n', q, k⟩ => by
  unfold axV at q
  split at q
  · rename_i as n1 q1
    cases q
    exact ⟨st, n, H0, I, ev, w, E, as, _, q1, k⟩
  · cases q
def axCons (f : FEX) (g : FAX) : FAX := fun e n => match f e n with
  | none => none
  | some (.ex c, n1) => some (.ex c, n1)
  | some (.v a, n1) => match g e n1 with
    | none => none
    | some (.ex c, n2) => some (.ex c, n2)
    | some (.v as, n2) => some (.v (a.arg :: as), n2)
theorem ax_cons (h1 : PE X e (tEX X.kw X.mg W fx)) (h2 : PA X es (tAX X.kw X.mg W ga)) (hs : starEach (e :: es) X.env = (false, eval e X.env) :: starEach es X.env := by rfl) : PA X (e :: es) (tAX X.kw X.mg W (axCons fx ga)) := (pa_cons h1 h2 hs).by fun σ H Q ⟨st, n, H0, I, ev, w, E, r, n', q, k⟩ => by
  unfold axCons at q
  split at q
  · cases q
  · rename_i c n1 q1
    cases q
    exact ⟨st, n, H0, I, ev, w, E, .ex c, _, q1, k⟩
  · rename_i a n1 q1
    split at q
    · cases q
    · rename_i c n2 q2
      cases q
      refine ⟨st, n, H0, I, ev, w, E, .v a, n1, q1, fun x I1 H1 x1 r1 f1 => ?_⟩
      obtain ⟨I2, x2, r2⟩ := SvR.argOf x1 r1 f1
      exact ⟨st, n1, H0, I2, ev, x2.w, E.mono x2, .ex c, _, q2, fun I3 H3 x3 => k I3 H3 (x2.trans x3)⟩
    · rename_i as' n2 q2
      cases q
      refine ⟨st, n, H0, I, ev, w, E, .v a, n1, q1, fun x I1 H1 x1 r1 f1 => ?_⟩
      obtain ⟨I2, x2, r2⟩ := SvR.argOf x1 r1 f1
      exact ⟨st, n1, H0, I2, ev, x2.w, E.mono x2, .v as', _, q2, fun vs I3 H3 x3 r3 => k _ I3 H3 (x2.trans x3) (.cons (r2.mono x3) (arg_nocell a) r3)⟩
def fTupX (ga : FAX) : FEX := fun e n => match ga e n with
  | none => none
  | some (.ex c, n1) => some (.ex c, n1)
  | some (.v as, n1) => match keepAll as with
    | some xs => if xs.length ≤ big then some (.v (.d (.tuple xs)), n1) else none
    | none => none
theorem e_tupX {x1 pos} (h : PA X es (tAX X.kw X.mg W ga)) : PE X (.Tuple es x1 pos) (tEX X.kw X.mg W (fTupX ga)) := (pe_tup h).by fun σ H Q ⟨st, n, H0, I, ev, w, E, r, n', q, k⟩ => by
  unfold fTupX at q
  split at q
  · cases q
  · rename_i c n1 q1
    cases q
    exact ⟨st, n, H0, I, ev, w, E, .ex c, _, q1, k⟩
  · rename_i as n1 q1
    split at q
    · rename_i xs q2
      split at q
      · rename_i hl
        cases q
        refine ⟨st, n, H0, I, ev, w, E, .v as, _, q1, fun vs I1 H1 x1 r1 => ?_⟩
        have hd := r1.keepAll q2
        refine ⟨by rw [DpAll.len hd]; exact big_le hl, fun p hp => ?_⟩
        obtain ⟨x2, k2⟩ := dp_tupNew x1.w hd hp
        exact k _ _ _ (x1.trans x2) k2 trivial
      · cases q
    · cases q
def fBiX (gg : List Sv → Option Sv) (ga : FAX) : FEX := fun e n => match ga e n with
  | none => none
  | some (.ex c, n1) => some (.ex c, n1)
  | some (.v as, n1) => match gg as with
    | some sv => some (.v sv, n1)
    | none => none
theorem t_cbX {K : KW} {mg : Str → Option Value} {r gg σ H} {Q : VK} (hd : CDo K r gg) (h : tEX K mg W (fBiX gg ga) σ H Q) : tCB r (tAX K mg W ga) σ H Q := by
  obtain ⟨st, n, H0, I, ev, w, E, rr, n', q, k⟩ := h
  unfold fBiX at q
  split at q
  · cases q
  · rename_i c n1 q1
    cases q
    exact ⟨st, n, H0, I, ev, w, E, .ex c, _, q1, k⟩
  · rename_i as n1 q1
    split at q
    · rename_i sv q2
      cases q
      exact ⟨st, n, H0, I, ev, w, E, .v as, _, q1, fun vs I1 H1 x1 r1 => hd st _ I1 H1 vs as sv Q x1.w r1 q2 fun v I2 H2 x2 r2 f2 => k v I2 H2 (x1.trans x2) r2 (Fr.back x1 r2 f2)⟩
    · cases q
theorem e_tyX {T : String} {r : List V → Hp → VK → Prop} {gg : List Sv → Option Sv} {x : Str} {p pos : Pos} (hc : CallR X (.type T) r) (hd : CDo X.kw r gg) (hg : Gl X x) (hm : X.mg x = none) (hv : bootBuiltins x = some (.type T)) (ha : PA X (e :: es) (tAX X.kw X.mg W ga)) (hn : x ≠ "__name__" := by decide) (hdb : (x == ("__debug__" : Str)) = false := by decide)
    (he : starEach (e :: es) X.env = (false, eval e X.env) :: starEach es X.env := by rfl) (hpl : (backTo pos (starEach es X.env)).any (·.1) = false := by rfl) : PE X (.Call (.Name x p) (e :: es) [] pos) (tEX X.kw X.mg W (fBiX gg ga)) :=
  (pe_callTy hc hg hm hv ha hn hdb he hpl).by fun σ H Q h => t_cbX hd h
end
end Sb
/-! P47: a module's dict of texts to texts; str(int), int(text), text.split(text), text in text. -/
namespace Sb
open PySem PySem.Spec PyProof.Rows L2
def valS (e : DictEntry) : Option Str := match e.val with
  | .str i _ => some i
  | _ => none
def lookS : List (Str × Str) → Str → Option Str
  | [], _ => none
  | (y, i) :: r, x => if y = x then some i else lookS r x
structure KDs (K : PySem.W.Frag) (w : World) (a : Addr) (m : List (Str × Str)) : Prop where
  ex : ∃ es n, K.lookup a = some ⟨.type "dict", none, .dict es n, #[]⟩ ∧ PySem.W.KeysLit w.params es.toList ∧ es.toList.map (fun e => (keyD e, valS e)) = m.map fun p => (some p.1, some p.2)
  low : (a == sysModules) = false
theorem find_ds : ∀ {es : List DictEntry} {m : List (Str × Str)}, es.map (fun e => (keyD e, valS e)) = m.map (fun p => (some p.1, some p.2)) → ∀ x : Str,
    (lookS m x = none → (es.find? fun e => Value.isStrOf x e.key) = none) ∧ ∀ i, lookS m x = some i → ∃ e t, (es.find? fun e => Value.isStrOf x e.key) = some e ∧ e.val = .str i t
  | [], [], _, x => ⟨fun _ => rfl, fun i h => by cases h⟩
  | [], _ :: _, h, _ => by simp at h
  | _ :: _, [], h, _ => by simp at h
  | e :: es, (y, j) :: m, h, x => by
    rw [List.map_cons, List.map_cons] at h
    injection h with h1 h2
    have hk : keyD e = some y := congrArg Prod.fst h1
    have hv : valS e = some j := congrArg Prod.snd h1
    obtain ⟨t, ek⟩ : ∃ t, e.key = .str y t := by
      unfold keyD at hk
      split at hk
      · rename_i z t q
        cases hk
        exact ⟨t, q⟩
      · cases hk
    obtain ⟨t', ev⟩ : ∃ t, e.val = .str j t := by
      unfold valS at hv
      split at hv
      · rename_i z t q
        cases hv
        exact ⟨t, q⟩
      · cases hv
    have hb : Value.isStrOf x e.key = (y == x) := by rw [ek]; rfl
    have ih := find_ds h2 x
    by_cases hx : y = x
    · have hl : lookS ((y, j) :: m) x = some j := by unfold lookS; rw [if_pos hx]
      have hf : (List.find? (fun e => Value.isStrOf x e.key) (e :: es)) = some e := List.find?_cons_of_pos (by rw [hb]; exact beq_iff_eq.mpr hx)
      rw [hl, hf]
      exact ⟨fun q => (nomatch q), fun i q => ⟨e, t', rfl, by rw [← Option.some.inj q]; exact ev⟩⟩
    · have hl : lookS ((y, j) :: m) x = lookS m x := by conv => lhs; unfold lookS; rw [if_neg hx]
      have hf : (List.find? (fun e => Value.isStrOf x e.key) (e :: es)) = List.find? (fun e => Value.isStrOf x e.key) es := List.find?_cons_of_neg (by rw [hb]; exact fun q => hx (beq_iff_eq.mp q))
      rw [hl, hf]
      exact ih
def rInDs (K : PySem.W.Frag) (w : World) (neg : Bool) : R2 := fun x y H Q => ∃ p z m, x = .str z ∧ y = .ref p ∧ KDs K w p m ∧ Q (.bl (if neg then !(lookS m z).isSome else (lookS m z).isSome)) H
def rIxDs (K : PySem.W.Frag) (w : World) : R2 := fun x y H Q => ∃ p z m i, x = .ref p ∧ y = .str z ∧ KDs K w p m ∧ lookS m z = some i ∧ Q (.str i) H
section
variable {X : Cx} {e : Expr} {f g : FE} {fa : FA}
theorem ds_some {es : Array DictEntry} {m : List (Str × Str)} (h : es.toList.map (fun e => (keyD e, valS e)) = m.map fun p => (some p.1, some p.2)) (z : Str) : (findBy Value.isStrOf es z).isSome = (lookS m z).isSome := by
  have q := find_ds h z
  unfold findBy
  rw [← Array.find?_toList]
  cases e : lookS m z with
  | none => rw [q.1 e]; rfl
  | some i =>
    obtain ⟨d, t, e1, e2⟩ := q.2 i e
    rw [e1]
    rfl
theorem op_notInDs : OpR X (compareOp .NotIn) (rInDs X.K X.w true) := by
  intro pins s σ H x y v u Q I rx ry h
  obtain ⟨p, z, m, rfl, rfl, D, q⟩ := h
  obtain ⟨es, n, hl, hk, hm⟩ := D.ex
  obtain rfl : u = Value.ref p := ry
  obtain ⟨t, rfl⟩ := rx
  refine wpAny_notIn_of (strKind_is X.prog X.w z t) D.low (PySem.W.mapOf_K (prog := X.prog) (w := X.w) I.kIn hl hk) ⟨.bl _, H, I.tok _, rfl, ?_⟩
  rw [ds_some hm z]
  exact q
theorem ix_ds : IxR X (rIxDs X.K X.w) := by
  intro value slice pins s σ H x y v u Q I rx ry h hs
  obtain ⟨p, z, m, i, rfl, rfl, D, e, q⟩ := h
  obtain ⟨es, n, hl, hk, hm⟩ := D.ex
  obtain rfl : v = Value.ref p := rx
  obtain ⟨t, rfl⟩ := ry
  obtain ⟨d, t', e1, e2⟩ := (find_ds hm z).2 i e
  have M := PySem.W.mapOf_K (prog := X.prog) (w := X.w) I.kIn hl hk
  have hf : findBy Value.isStrOf es z = some (.str i t') := by
    unfold findBy
    rw [← Array.find?_toList, e1]
    show some d.val = _
    rw [e2]
  exact tail_any M.typeIs slot_dict_getitem.lookup (wpAny_getItem_of (strKind_is X.prog X.w z t) M hf ⟨.str i, H, I.tok _, ⟨_, rfl⟩, q⟩) hs
def fInS (m : List (Str × Str)) (f : FE) : FE := fun e n => match f e n with
  | some (.d (.str z), n1) => some (.d (.bool (!(lookS m z).isSome)), n1)
  | _ => none
def fIxS (m : List (Str × Str)) (f : FE) : FE := fun e n => match f e n with
  | some (.d (.str z), n1) => (match lookS m z with
    | some i => some (.d (.str i), n1)
    | none => none)
  | _ => none
theorem e_ixS {p : Addr} {m : List (Str × Str)} (D : KDs X.K X.w p m) (h : PE X e (tOp (rIxDs X.K X.w) (tC (.ref p)) (tE X.kw f))) : PE X e (tE X.kw (fIxS m f)) := h.by fun σ H Q ⟨st, n, H0, I, ev, w, E, sv, n', q, k⟩ => by
  unfold fIxS at q
  split at q
  · rename_i z n1 q1
    split at q
    · rename_i i q2
      cases q
      refine ⟨st, n, H0, I, ev, w, E, _, _, q1, fun v I1 H1 x1 r1 _ => ?_⟩
      cases r1
      exact ⟨p, z, m, i, rfl, rfl, D, q2, k _ I1 H1 x1 (.str _) trivial⟩
    · cases q
  · cases q
theorem t_notInS {p : Addr} {m : List (Str × Str)} (D : KDs X.K X.w p m) (h : PT X e (tTest (tOp (rInDs X.K X.w true) (tE X.kw f) (tC (.ref p))))) : PT X e (tTs X.kw (bT (fInS m f))) := h.by fun σ H Q ⟨st, n, H0, I, ev, w, E, b, n', q, k⟩ => by
  have q := bT_eq q
  unfold fInS at q
  split at q
  · rename_i z n1 q1
    cases q
    refine ⟨st, n, H0, I, ev, w, E, _, _, q1, fun v I1 H1 x1 r1 _ => ?_⟩
    cases r1
    exact ⟨p, z, m, rfl, rfl, D, _, rfl, k I1 H1 x1⟩
  · cases q
/-! str(int), int(text) -/
def strIG (x : PyData) : Option Sv := match x with
  | .int i => if i.natAbs.log2 < 1920 then some (.d (.str (toString i))) else none
  | _ => none
def intSG (x : PyData) : Option Sv := match x with
  | .str a => (match PySem.intText? a with
    | some n => if a.length ≤ 640 then some (.d (.int n)) else none
    | none => none)
  | _ => none
variable {K : KW}
theorem cd_strI : CDo K (fun xs H Q => ∃ i : Int, xs = [.int i] ∧ i.natAbs.log2 < 1920 ∧ Q (.str (toString i)) H) (see1 strIG) := see1_of fun st n I H v x sv Q w hs e k => by
  unfold strIG at e
  split at e
  · split at e
    · rename_i i hi
      cases e
      exact ⟨i, by rw [hs.int], hi, k _ I H (.refl w) (.str _) trivial⟩
    · cases e
  · cases e
theorem cd_intS : CDo K (fun xs H Q => ∃ a n, xs = [.str a] ∧ PySem.intText? a = some n ∧ a.length ≤ 640 ∧ Q (.int n) H) (see1 intSG) := see1_of fun st n I H v x sv Q w hs e k => by
  unfold intSG at e
  split at e
  · rename_i a
    split at e
    · rename_i m hm
      split at e
      · rename_i hl
        cases e
        exact ⟨a, m, by rw [hs.str], hm, hl, k _ I H (.refl w) (.int _) trivial⟩
      · cases e
    · cases e
  · cases e
/-! split -/
def splitG (a : Sv) (as : List Sv) : Option Sv := match a, as with
  | .d (.str x), [.d (.str y)] => if (y.length == 0) = false ∧ x.length + 2 ≤ big then some (.cell ((Txt.split x y).map PyData.str)) else none
  | _, _ => none
theorem md_split : MDo K (fun x xs H Q => ∃ a b, x = .str a ∧ xs = [.str b] ∧ (b.length == 0) = false ∧ a.length + 2 ≤ sizeLine ∧ rNewStrs (Txt.split a b) H Q) splitG := by
  intro st n I H x a vs as sv Q w ra rs e k
  unfold splitG at e
  split at e
  · rename_i z y
    cases rs with
    | cons h1 _ h3 =>
      cases h3
      cases ra
      cases h1
      split at e
      · rename_i hc
        cases e
        refine ⟨z, y, rfl, rfl, hc.1, big_le hc.2, fun p hp => ?_⟩
        obtain ⟨x4, k4, k5⟩ := sv_cellNew w (DpAll.strs' (Txt.split z y)) hp
        exact k _ I _ x4 k4 k5
      · cases e
  · cases e
/-! text in text -/
def inSD (neg : Bool) (a b : PyData) : Option PyData := match a, b with
  | .str i, .str j => some (.bool ((!(Builtin.Str.occurrences j i 0 j.length 1).isEmpty) != neg))
  | _, _ => none
theorem rd_notInS : RDs K (fun x y H Q => ∃ i j, x = .str i ∧ y = .str j ∧ Q (.bl (!(!(Builtin.Str.occurrences j i 0 j.length 1).isEmpty))) H) (inSD true) := by
  intro st n I H x y a b d Q w ha hb e k
  unfold inSD at e
  split at e
  · cases e
    rw [Bool.bne_true] at k
    exact ⟨_, _, ha.str, hb.str, k _ I H (.refl w) (.bl _)⟩
  · cases e
end
end Sb
/-! P43: f("..", ..) != x.replace("..", ".."): the written texts are told apart, since a sign is out once f is called with one. -/
namespace Sb
open PySem PySem.Spec PyProof.Rows L2
/-- behind it a sign is out -/
def PE1 (X : Cx) (e : Expr) (t : TE) : Prop :=
  ∀ (pins : List (Addr × Obj)) (s : Shared) (σ : L2.St) (H : Hp) (Q : VK), Inv X pins σ H s → t σ H Q → wpAny (model X.prog X.w) X.A (eval e X.env) (fun v s1 => 1 ≤ s1.toks ∧ EP X pins σ Q v s1) X.xe s
section
variable {X : Cx} {e e2 a b : Expr} {es : List Expr} {t t2 ta tb to : TE}
theorem PE1.by {u : TE} (h : PE1 X e t) (k : ∀ σ H Q, u σ H Q → t σ H Q) : PE1 X e u := fun pins s σ H Q I q => h pins s σ H Q I (k σ H Q q)
theorem pet_by {u : TE} (h : PET X e t) (k : ∀ σ H Q, u σ H Q → t σ H Q) : PET X e u := fun pins s σ H Q h1 I q => h pins s σ H Q h1 I (k σ H Q q)
def tRepl (y z : Str) (to : TE) : TE := fun σ H Q => to σ H fun x H1 => ∃ a, x = .str a ∧ a.length + (a.length + 1) * z.length ≤ 16777216 ∧ Q (.str (Txt.replace a y z)) H1
theorem pet_repl {o : Expr} {y z : Str} {j1 j2 : Nat} {c1 c2 apos pos : Pos} (hyz : (y == z) = false) (ho : PE X o to)
    (hst : starEach [.Constant (.str y) j1 c1, .Constant (.str z) j2 c2] X.env = [(false, eval (.Constant (.str y) j1 c1) X.env), (false, eval (.Constant (.str z) j2 c2) X.env)] := by rfl)
    (hbase : attributeBase o "replace" X.env (eval o X.env) = eval o X.env := by rfl) (hline : (apos.endLine == pos.line) = true := by rfl) :
    PET X (.Call (.Attribute o "replace" apos) [.Constant (.str y) j1 c1, .Constant (.str z) j2 c2] [] pos) (tRepl y z to) := by
  intro pins s σ H Q h1 I h
  refine PySem.Call_method2 hbase hst hline (wpAny_mono (wpAny_toks_of h1 (ho.run pins s σ H _ I h)) (fun v s1 q => ?_) fun _ _ z => z.2)
  obtain ⟨k1, x, H1, I1, r1, a, rfl, hb, q⟩ := q
  obtain ⟨tx, rfl⟩ := r1
  refine ⟨"str", _, F.plainAttrs_str, F.slot_str_replace, F.type_str_replace, typeIs_str _ _ _, (fun _ e => nomatch e), Calls.callWith_builtin rfl (Calls.evalArgs_plain (Calls.spliced_cons (Calls.Constant_str (Calls.spliced_cons (Calls.Constant_str (Calls.spliced_nil ?_))))))⟩
  exact PySem.SC.replace (show s1.toks ≠ 0 by omega) (show s1.toks + 1 ≠ 0 by omega) (show s1.toks ≠ s1.toks + 1 by omega) hyz hb fun t' k => ⟨.str (Txt.replace a y z), H1, I1.tok k, ⟨t', rfl⟩, q⟩
def fRepl (y z : Str) (f : FE) : FE := fun e n => match f e n with
  | some (.d (.str a), n1) => if a.length + (a.length + 1) * z.length ≤ 16777216 then some (.d (.str (Txt.replace a y z)), n1) else none
  | _ => none
theorem e_repl {y z : Str} {f : FE} (h : PET X e (tRepl y z (tE X.kw f))) : PET X e (tE X.kw (fRepl y z f)) := pet_by h fun σ H Q ⟨st, n, H0, I, ev, w, E, sv, n', q, k⟩ => by
  unfold fRepl at q
  split at q
  · rename_i a n1 q1
    split at q
    · rename_i hl
      cases q
      refine ⟨st, n, H0, I, ev, w, E, _, _, q1, fun v I1 H1 x1 r1 _ => ?_⟩
      cases r1
      exact ⟨a, rfl, hl, k _ _ _ x1 (.str _) trivial⟩
    · cases q
  · cases q
end
end Sb
/-! P18: a short text, repeated. -/
namespace Sb
open PySem PySem.Spec PyProof.Rows L2
def repS (x : Str) (k : Nat) : Str := ⟨(List.replicate k x.cps).foldl (· ++ ·) #[]⟩
def mulS : PyData → PyData → Option PyData
  | .str x, .int k => if 2 ≤ k ∧ k ≤ 10000 ∧ x.length = 1 ∧ (repS x k.toNat).length ≤ 10000 then some (.str (repS x k.toNat)) else none
  | _, _ => none
def rMulS : R2 := fun x y H Q => ∃ z k, x = V.str z ∧ y = V.int k ∧ 2 ≤ k ∧ k ≤ 10000 ∧ z.length = 1 ∧ (repS z k.toNat).length ≤ 10000 ∧ Q (.str (repS z k.toNat)) H
section
variable {X : Cx}
theorem op_mulS : OpR X (binaryOp .Mult) rMulS := by
  intro pins s σ H x y v u Q I rx ry h
  obtain ⟨z, k, rfl, rfl, h1, h2, h3, h4, q⟩ := h
  obtain ⟨t, rfl⟩ := rx
  obtain ⟨t', rfl⟩ := ry
  have hlt : ¬ k < 1 := by omega
  have hne : (k == 1 || z.length == 0) = false := by
    have a : (k == 1) = false := by rw [beq_eq_false_iff_ne]; omega
    have b : (z.length == 0) = false := by rw [beq_eq_false_iff_ne]; omega
    rw [a, b]
    rfl
  refine P.mul_str (by rw [decide_eq_false (by omega), decide_eq_false (by omega)]; rfl) (fun _ _ => ?_) (fun _ _ => ?_) ?_
  · rw [h3]
    have h5 : (1 : Int) ≤ (2 ^ 63 - 1) / k := by
      rw [Int.le_ediv_iff_mul_le (by omega)]
      omega
    intro h6
    have h6 : ((1 : Nat) : Int) > (2 ^ 63 - 1) / k := h6
    omega
  · have h5 : k.toNat ≤ 10000 := by omega
    show decide (z.length * k.toNat > sizeLine) = false
    rw [h3, sizeLine_eq]
    exact decide_eq_false (by omega)
  · rw [if_neg hlt, if_neg (by rw [hne]; exact Bool.false_ne_true)]
    refine ⟨?_, ⟨.str (repS z k.toNat), H, I.tok _, ⟨_, rfl⟩, q⟩⟩
    have h5 : (repS z k.toNat).length ≤ sizeLine := by rw [sizeLine_eq]; omega
    exact h5
theorem rd_mulS {K : KW} : RDs K rMulS mulS := by
  intro st n I H x y a b d Q w ha hb e k
  unfold mulS at e
  split at e
  · split at e
    · rename_i hc
      cases e
      exact ⟨_, _, ha.str, hb.int, hc.1, hc.2.1, hc.2.2.1, hc.2.2.2, k _ I H (.refl w) (.str _)⟩
    · cases e
  · cases e
end
end Sb
/-! P55: x.replace("..", "..") once a text is written; x.upper(). -/
namespace Sb
open PySem PySem.Spec PyProof.Rows L2
section
variable {X : Cx} {e e2 a b c : Expr} {es : List Expr} {s : Stmt} {sa sb : List Stmt} {ta : TA} {te : TE} {tt : TT} {f : FE} {fa : FA} {ft : FT} {xa xb : FS}
theorem pat_by {u : TA} (h : PAT X es ta) (k : ∀ σ H Q, u σ H Q → ta σ H Q) : PAT X es u := fun pos pins s σ H Q h1 I q => h pos pins s σ H Q h1 I (k σ H Q q)
theorem et_of (h : PE X e te) : PET X e te := fun pins s σ H Q _ I q => h.run pins s σ H Q I q
theorem at_nil : PAT X [] (tAs X.kw faNil) := pat_by pat_nil fun σ H Q ⟨st, n, H0, I, ev, w, E, as, n', q, k⟩ => by
  cases q
  exact k [] I H (.refl w) .nil
theorem at_cons (h1 : PET X e (tE X.kw f)) (h2 : PAT X es (tAs X.kw fa)) (hs : starEach (e :: es) X.env = (false, eval e X.env) :: starEach es X.env := by rfl) : PAT X (e :: es) (tAs X.kw (faCons f fa)) := pat_by (pat_cons h1 h2 hs) fun σ H Q ⟨st, n, H0, I, ev, w, E, as, n', q, k⟩ => by
  unfold faCons at q
  split at q
  · cases q
  · rename_i a n1 q1
    split at q
    · cases q
    · rename_i as' n2 q2
      cases q
      refine ⟨st, n, H0, I, ev, w, E, a, n1, q1, fun x I1 H1 x1 r1 f1 => ?_⟩
      obtain ⟨I2, x2, r2⟩ := SvR.argOf x1 r1 f1
      exact ⟨st, n1, H0, I2, ev, x2.w, E.mono x2, as', _, q2, fun vs I3 H3 x3 r3 => k _ I3 H3 (x2.trans x3) (.cons (r2.mono x3) (arg_nocell a) r3)⟩
theorem pa_constT {z : Str} {j : Nat} {cp : Pos} (h : PAT X es ta) (he : starEach (.Constant (.str z) j cp :: es) X.env = (false, eval (.Constant (.str z) j cp) X.env) :: starEach es X.env := by rfl) : PA X (.Constant (.str z) j cp :: es) (tCons (tC (.str z)) ta) := by
  refine ⟨fun pos pins s σ H Q I q => ?_⟩
  rw [he]
  show wpAny _ _ (spliced ((false, eval (.Constant (.str z) j cp) X.env) :: backTo pos (starEach es X.env))) _ _ s
  refine Calls.spliced_cons (Calls.Constant_str ?_)
  exact thn (h pos pins { s with toks := s.toks + 1 } σ H _ (by show 1 ≤ s.toks + 1; omega) (I.tok _) q) fun us s1 ⟨vs, H1, I1, r, q⟩ => ⟨V.str z :: vs, H1, I1, .cons (show RelV (V.str z) (Value.str z s.toks) from ⟨s.toks, rfl⟩) r, q⟩
theorem a_strT {z : Str} {j : Nat} {cp : Pos} (h : PAT X es (tAs X.kw fa)) (he : starEach (.Constant (.str z) j cp :: es) X.env = (false, eval (.Constant (.str z) j cp) X.env) :: starEach es X.env := by rfl) : PA X (.Constant (.str z) j cp :: es) (tAs X.kw (faCons (fC (.str z)) fa)) := (pa_constT h he).by fun σ H Q ⟨st, n, H0, I, ev, w, E, as, n', q, k⟩ => by
  unfold faCons at q
  split at q
  · cases q
  · rename_i a1 m1 qa
    cases qa
    split at q
    · cases q
    · rename_i as2 m2 qb
      cases q
      exact ⟨st, n, H0, I, ev, w, E, as2, _, qb, fun vs I3 H3 x3 r3 => k _ I3 H3 x3 (.cons (show Dp X.kw I3 (.str z) (.str z) from .str z) (arg_nocell (.d (.str z))) r3)⟩
theorem et_lst {pos : Pos} (h : PAT X es (tAs X.kw fa)) : PET X (.List es pos) (tE X.kw (fLst fa)) := pet_by (pet_lst h) fun σ H Q ⟨st, n, H0, I, ev, w, E, sv, n', q, k⟩ => by
  unfold fLst at q
  split at q
  · cases q
  · rename_i as n1 q1
    split at q
    · rename_i xs q2
      split at q
      · rename_i hl
        cases q
        refine ⟨st, n, H0, I, ev, w, E, as, _, q1, fun vs I1 H1 x1 r1 => ?_⟩
        have hd := r1.keepAll q2
        refine ⟨by rw [DpAll.len hd]; exact big_le hl, fun p hp => ?_⟩
        obtain ⟨x2, k2, k3⟩ := sv_cellNew x1.w hd hp
        exact k _ _ _ (x1.trans x2) k2 (Fr.back x1 k2 k3)
      · cases q
    · cases q
/-! upper -/
def fUp (f : FE) : FE := fun e n => match f e n with
  | some (.d (.str a), n1) => if a.length ≤ 5592405 then some (.d (.str (Txt.upper a)), n1) else none
  | _ => none
theorem e_up (h : PE X e (tM0 (fun x xs H Q => ∃ a, x = .str a ∧ xs = [] ∧ a.length ≤ 5592405 ∧ Q (.str (Txt.upper a)) H) (tE X.kw f))) : PE X e (tE X.kw (fUp f)) := h.by fun σ H Q ⟨st, n, H0, I, ev, w, E, sv, n', q, k⟩ => by
  unfold fUp at q
  split at q
  · rename_i a n1 q1
    split at q
    · rename_i hl
      cases q
      refine ⟨st, n, H0, I, ev, w, E, _, _, q1, fun v I1 H1 x1 r1 _ => ?_⟩
      cases r1
      exact ⟨⟨a, rfl⟩, a, rfl, rfl, hl, k _ _ _ x1 (.str _) trivial⟩
    · cases q
  · cases q
/-! a test behind which a text is out -/
def PT1 (X : Cx) (e : Expr) (t : TT) : Prop := ∀ (pins : List (Addr × Obj)) (s : Shared) (σ : L2.St) (H : Hp) (Q : Bool → Hp → Prop), Inv X pins σ H s → t σ H Q → wpAny (model X.prog X.w) X.A (isTrue e X.env (eval e X.env)) (fun b s1 => 1 ≤ s1.toks ∧ TP X pins σ Q b s1) X.xe s
theorem pe1_str {z : Str} {j : Nat} {p : Pos} : PE1 X (.Constant (.str z) j p) (tE X.kw (fC (.str z))) := fun pins s σ H Q I ⟨st, n, H0, I1, ev, w, E, sv, n', q, k⟩ => by
  cases q
  refine Calls.Constant_str ⟨by show 1 ≤ s.toks + 1; omega, V.str z, H, I.tok _, ⟨s.toks, rfl⟩, k _ I1 H (.refl w) (.str z) trivial⟩
theorem t1_cmp {op : CmpOp} {r : R2} {gg : Sv → Sv → Option Sv} {f1 f2 : FE} {pos : Pos} (hr : OpR X (compareOp op) r) (hd : RDo X.kw r gg) (h1 : PE1 X a (tE X.kw f1)) (h2 : PE X b (tE X.kw f2)) (hm : behindInMarks op b = false) : PT1 X (.Compare a [op] [b] pos) (tTs X.kw (bT (fOp2 gg f1 f2))) := by
  intro pins s σ H Q I h
  have h : tOp r (tE X.kw f1) (tE X.kw f2) σ H fun x H' => ∃ d, x = .bl d ∧ Q d H' := by
    obtain ⟨st, n, H0, I, ev, w, E, b, n', q, k⟩ := h
    refine t_op2 hd σ H _ ⟨st, n, H0, I, ev, w, E, _, n', bT_eq q, fun v I' H' x r _ => ?_⟩
    cases r
    exact ⟨b, rfl, k I' H' x⟩
  refine wpAny_isTrue_Compare1 (thn (h1 pins s σ H _ I h) fun v s1 ⟨k1, x, H1, I1, r1, q1⟩ => wpAny_mono (wpAny_toks_of k1 (h2.run pins s1 σ H1 _ I1 q1)) (fun u s2 ⟨k2, y, H2, I2, r2, q2⟩ =>
    wpAny_mono (wpAny_toks_of k2 (hr pins s2 σ H2 x y v u _ I2 r1 r2 q2)) (fun d s3 ⟨k3, z, H3, I3, r3, k, e, q3⟩ => ?_) fun _ _ z => z.2) fun _ _ z => z.2) hm
  subst e
  cases r3
  exact wpAny_truthy_bool ⟨k3, H3, I3, q3⟩
theorem s_ite1 {pos : Pos} (hc : PT1 X c (tTs X.kw ft)) (h1 : PSsT X sa (tSs X.kw xa)) (h2 : PSs X sb (tSs X.kw xb)) : PS X (.If c sa sb pos) (tSs X.kw (sIf ft xa xb)) := by
  refine ⟨fun pins s σ H D I h => ?_⟩
  have h : tIfS (tTs X.kw ft) (tSs X.kw xa) (tSs X.kw xb) D σ H := by
    obtain ⟨st, n, I0, H0, I, e, x, E, fl, e', n', q, k⟩ := h
    unfold sIf at q
    split at q
    · cases q
    · rename_i n1 q1
      refine ⟨st, n, H0, I, e, x.w, E, true, n1, q1, fun I1 H1 x1 => ?_⟩
      dsimp only
      rw [if_pos rfl]
      exact ⟨st, n1, I0, H0, I1, e, x.trans x1, E.mono x1, fl, e', n', q, Fin.up x1.ii k⟩
    · rename_i n1 q1
      refine ⟨st, n, H0, I, e, x.w, E, false, n1, q1, fun I1 H1 x1 => ?_⟩
      dsimp only
      rw [if_neg Bool.false_ne_true]
      exact ⟨st, n1, I0, H0, I1, e, x.trans x1, E.mono x1, fl, e', n', q, Fin.up x1.ii k⟩
  refine wpAny_If (thn (hc pins s σ H _ I h) fun d s1 ⟨k1, H1, I1, q1⟩ => ?_)
  cases d with
  | true => exact h1 pins s1 σ H1 D k1 I1 (by simpa using q1)
  | false => exact h2.run pins s1 σ H1 D I1 (by simpa using q1)
theorem bT_one (h : PST X s (tSs X.kw xa)) : PSsT X [s] (tSs X.kw xa) := by
  intro pins s' σ H D h1 I q
  exact psst_cons h (PSsT.of pss_nil) pins s' σ H D h1 I q
theorem pst_expr {pos : Pos} (h : PET X e te) (hs : swapsWith e none pos.line X.env = pure false := by rfl) : PST X (.Expr e pos) (tDrop te) := by
  intro pins s σ H D h1 I q
  exact wpAny_Expr_any (thn (h pins s σ H _ h1 I q) fun v s1 ⟨x, H1, I1, r1, q1⟩ => ⟨σ, H1, I1, q1⟩) I.quiet hs
theorem pet_bm {T id : String} {name : Str} {apos cpos : Pos} {r : V → List V → Hp → VK → Prop} {o : Expr} {to : TE} (pa : PlainAttrs T) (slot : Slot T name id) (hty : typeOf (.builtin id) = pure (.type "method_descriptor")) (hm : MtR X id r) (ho : PE X o to) (ha : PAT X (e :: es) ta)
    (hbase : attributeBase o name X.env (eval o X.env) = eval o X.env := by rfl)
    (hfew : ((backTo cpos (starEach (e :: es) X.env)).all (fun x => !x.1) && (backToKw cpos (keywordEach [] X.env)).all (fun x => x.1.isSome)
      && decide ((e :: es).length + ([] : List Keyword).length + (if ([] : List Keyword).isEmpty then 0 else 1) < 30)) = true := by rfl)
    (hline : (apos.endLine == cpos.line) = true := by rfl) (hs : starEach (e :: es) X.env = (false, eval e X.env) :: starEach es X.env := by rfl) (hplain : (backTo cpos (starEach es X.env)).any (·.1) = false := by rfl) :
    PET X (.Call (.Attribute o name apos) (e :: es) [] cpos) (tBM X.K T r to ta) := by
  intro pins s σ H Q h1 I h
  refine wpAny_Call_method_late hbase hfew hline rfl (wpAny_mono (wpAny_toks_of h1 (ho.run pins s σ H _ I h)) (fun v s1 ⟨k1, x, H1, I1, r1, ty, q1⟩ => ?_) fun _ _ z => z.2)
  obtain ⟨y1, y2⟩ := tyV_is I1 r1 ty
  refine ⟨T, id, pa, slot, hty, y1, y2, ?_⟩
  have hA := ha cpos pins s1 σ H1 _ k1 I1 q1
  rw [hs] at hA ⊢
  refine Calls.callWith_builtin (by show (false || (backTo cpos (starEach es X.env)).any (·.1)) = false; rw [hplain] <;> rfl) (Calls.evalArgs_plain ?_)
  exact thn hA fun us s2 ⟨vs, H2, I2, r2, q2⟩ => hm pins s2 σ H2 x vs v us Q I2 r1 r2 q2
theorem pat_one (h : PET X e te) (hs : starEach [e] X.env = (false, eval e X.env) :: starEach [] X.env := by rfl) : PAT X [e] (tCons te tNil) := pat_cons h pat_nil hs
theorem s_extT {i : Nat} (h : PST X s (tDrop (tBM X.K "list" rExtend (tVar i) (tCons (tE X.kw f) tNil)))) : PST X s (tSs X.kw (sExt i f)) := fun pins s' σ H D h1 J hh => h pins s' σ H D h1 J (by
  obtain ⟨st, n, I0, H0, I, e, x, E, fl, e', n', q, k⟩ := hh
  unfold sExt at q
  split at q
  · cases q
  · rename_i ys n1 q1
    split at q
    · rename_i xs q3
      split at q
      · rename_i hl
        cases q
        exact ext_of x E q1 (.inl rfl) q3 hl k
      · cases q
    · cases q
  · rename_i ys n1 q1
    split at q
    · rename_i xs q3
      split at q
      · rename_i hl
        cases q
        exact ext_of x E q1 (.inr rfl) q3 hl k
      · cases q
    · cases q
  · cases q)
theorem rd_inS {K : KW} : RDs K (fun x y H Q => ∃ i j, x = .str i ∧ y = .str j ∧ Q (.bl (!(Builtin.Str.occurrences j i 0 j.length 1).isEmpty)) H) (inSD false) := by
  intro st n I H x y a b d Q w ha hb e k
  unfold inSD at e
  split at e
  · cases e
    rw [Bool.bne_false] at k
    exact ⟨_, _, ha.str, hb.str, k _ I H (.refl w) (.bl _)⟩
  · cases e
end
end Sb
/-! P53: of a head by one run: what the record Tx asks of the exception classes and of the top's dicts. -/
namespace Sb
open PySem PySem.Spec PyProof.Rows L2
section
variable {q : Ask} {w : World} {K : PySem.W.Frag}
theorem he_err {x b : Str} (h1 : (He.Fa.exc x).ok K = true) (h2 : exE x b K = true) (hB : exB b K = true) (tB : exT b K = true) : ErrOk K (He.ga K x) (He.ga K b) := by
  obtain ⟨xx, kk, bb, ta⟩ := He.exc_ok h1
  unfold exE at h2
  obtain ⟨e1, h2⟩ := He.ba h2
  obtain ⟨e2, h2⟩ := He.ba h2
  obtain ⟨e4, h2⟩ := He.ba h2
  obtain ⟨e5, h2⟩ := He.ba h2
  obtain ⟨e8, h2⟩ := He.ba h2
  obtain ⟨sV, sB⟩ := He.ba h2
  unfold exB at hB
  obtain ⟨bbB, hB⟩ := He.ba hB
  obtain ⟨hdB, hB⟩ := He.ba hB
  obtain ⟨oc1, oc2⟩ := He.ba hB
  unfold exT at tB
  obtain ⟨_, tb⟩ := He.ba tB
  exact ⟨xx, kk, bb, ta, ⟨of_decide_eq_true e1, of_decide_eq_true e2, bb, e4, of_decide_eq_true e5, of_decide_eq_true oc1, of_decide_eq_true oc2, of_decide_eq_true e8⟩, PySem.W.exm_ref (of_decide_eq_true bbB) hdB (of_decide_eq_true tb) (of_decide_eq_true sB)⟩
theorem he_val {x b : Str} (h2 : exE x b K = true) : PySem.W.kitOne K (.ref (He.ga K x)) (.type "ValueError") = some true := by
  unfold exE at h2
  obtain ⟨_, h2⟩ := He.ba h2
  obtain ⟨_, h2⟩ := He.ba h2
  obtain ⟨_, h2⟩ := He.ba h2
  obtain ⟨_, h2⟩ := He.ba h2
  obtain ⟨_, h2⟩ := He.ba h2
  obtain ⟨sV, _⟩ := He.ba h2
  exact kit_val (of_decide_eq_true sV)
theorem he_sub {x : Str} {ys : List (Str × Bool)} (h : exS x ys K = true) (i : Nat) {y : Str × Bool} (hi : ys[i]? = some y := by rfl) : PySem.W.subIn K (.ref (He.ga K x)) (.ref (He.ga K y.1)) = some y.2 := by
  unfold exS at h
  exact of_decide_eq_true (List.all_eq_true.mp h y (List.mem_of_getElem? hi))
theorem he_not {x y : Str} {ys : List (Str × Bool)} (h : exS x ys K = true) (i j : Nat) (ty : exT y K = true) (hi : ys[i]? = some (x, true) := by rfl) (hj : ys[j]? = some (y, false) := by rfl) : PySem.W.kitOne K (.ref (He.ga K x)) (.ref (He.ga K y)) = some false := by
  unfold exT at ty
  obtain ⟨a, b⟩ := He.ba ty
  exact kit_not (he_sub h i hi) a (of_decide_eq_true b) (he_sub h j hj)
theorem he_dm {x : Str} {ks : List Str} {m : List (Str × Int)} (h : He.dicW K (He.ga K x) = some (He.keysIn w.params ks)) (hv : exV x m K = true) : KDm K w (He.ga K x) m := by
  obtain ⟨h1, h2⟩ := dicW_lit h _ (of_decide_eq_true hv)
  exact ⟨h1, h2⟩
theorem he_ds {x : Str} {ks : List Str} {m : List (Str × Str)} (h : He.dicW K (He.ga K x) = some (He.keysIn w.params ks)) (hv : exW x m K = true) : KDs K w (He.ga K x) m := by
  obtain ⟨h1, h2⟩ := dicW_lit h _ (of_decide_eq_true hv)
  exact ⟨h1, h2⟩
end
end Sb
namespace Sb
open PySem PySem.Spec PyProof.Rows L2
theorem sc_is_number : FnScope ["value", "least", "most"] ["value", "least", "most"] (defScope s_is_number) := ⟨rfl, rfl, rfl, by decide +kernel, rfl, by decide +kernel, by decide +kernel⟩
theorem sc_is_tuple : FnScope ["value", "least", "most"] ["value", "least", "most"] (defScope s_is_tuple) := ⟨rfl, rfl, rfl, by decide +kernel, rfl, by decide +kernel, by decide +kernel⟩
theorem sc_is_text : FnScope ["value", "longest", "letter"] ["value", "longest"] (defScope s_is_text) := ⟨rfl, rfl, rfl, by decide +kernel, rfl, by decide +kernel, by decide +kernel⟩
theorem sc_is_ascending : FnScope ["values", "at"] ["values"] (defScope s_is_ascending) := ⟨rfl, rfl, rfl, by decide +kernel, rfl, by decide +kernel, by decide +kernel⟩
theorem sc_is_thing : FnScope ["value", "text"] ["value"] (defScope s_is_thing) := ⟨rfl, rfl, rfl, by decide +kernel, rfl, by decide +kernel, by decide +kernel⟩
theorem sc_are_things : FnScope ["value", "many", "thing"] ["value"] (defScope s_are_things) := ⟨rfl, rfl, rfl, by decide +kernel, rfl, by decide +kernel, by decide +kernel⟩
theorem sc_is_reading : FnScope ["value", "many_things", "step", "word", "number"] ["value", "many_things", "step"] (defScope s_is_reading) := ⟨rfl, rfl, rfl, by decide +kernel, rfl, by decide +kernel, by decide +kernel⟩
theorem sc_is_step : FnScope ["value", "many_things", "step", "operation", "reads", "reading"] ["value", "many_things", "step"] (defScope s_is_step) := ⟨rfl, rfl, rfl, by decide +kernel, rfl, by decide +kernel, by decide +kernel⟩
theorem sc_are_steps : FnScope ["value", "many_things", "at"] ["value", "many_things"] (defScope s_are_steps) := ⟨rfl, rfl, rfl, by decide +kernel, rfl, by decide +kernel, by decide +kernel⟩
theorem sc_is_made : FnScope ["value", "many_steps", "number"] ["value", "many_steps"] (defScope s_is_made) := ⟨rfl, rfl, rfl, by decide +kernel, rfl, by decide +kernel, by decide +kernel⟩
theorem sc_is_recipe : FnScope ["value", "things", "steps", "made"] ["value"] (defScope s_is_recipe) := ⟨rfl, rfl, rfl, by decide +kernel, rfl, by decide +kernel, by decide +kernel⟩
theorem sc_check_recipe : FnScope ["value"] ["value"] (defScope s_check_recipe) := ⟨rfl, rfl, rfl, by decide +kernel, rfl, by decide +kernel, by decide +kernel⟩
theorem sc_written_thing : FnScope ["thing", "text"] ["thing"] (defScope s_written_thing) := ⟨rfl, rfl, rfl, by decide +kernel, rfl, by decide +kernel, by decide +kernel⟩
theorem sc_written_step : FnScope ["step", "operation", "reads", "word", "number"] ["step"] (defScope s_written_step) := ⟨rfl, rfl, rfl, by decide +kernel, rfl, by decide +kernel, by decide +kernel⟩
theorem sc_written : FnScope ["recipe", "things", "steps", "made", "thing", "step", "number"] ["recipe"] (defScope s_written) := ⟨rfl, rfl, rfl, by decide +kernel, rfl, by decide +kernel, by decide +kernel⟩
theorem sc_format_recipe : FnScope ["recipe"] ["recipe"] (defScope s_format_recipe) := ⟨rfl, rfl, rfl, by decide +kernel, rfl, by decide +kernel, by decide +kernel⟩
theorem sc_read_thing : FnScope ["text", "word"] ["text"] (defScope s_read_thing) := ⟨rfl, rfl, rfl, by decide +kernel, rfl, by decide +kernel, by decide +kernel⟩
theorem sc_read_number : FnScope ["text"] ["text"] (defScope s_read_number) := ⟨rfl, rfl, rfl, by decide +kernel, rfl, by decide +kernel, by decide +kernel⟩
theorem sc_read_reading : FnScope ["text"] ["text"] (defScope s_read_reading) := ⟨rfl, rfl, rfl, by decide +kernel, rfl, by decide +kernel, by decide +kernel⟩
theorem sc_read_step : FnScope ["text", "words", "word"] ["text"] (defScope s_read_step) := ⟨rfl, rfl, rfl, by decide +kernel, rfl, by decide +kernel, by decide +kernel⟩
theorem sc_parse_recipe : FnScope ["text", "parts", "things", "steps", "made", "recipe", "part"] ["text"] (defScope s_parse_recipe) := ⟨rfl, rfl, rfl, by decide +kernel, rfl, by decide +kernel, by decide +kernel⟩
theorem sc_cell_at : FnScope ["_law_script", "_law_k", "_law_spare", "_law_again"] ["_law_script", "_law_k"] (defScope s_cell_at) := ⟨rfl, rfl, rfl, by decide +kernel, rfl, by decide +kernel, by decide +kernel⟩
theorem sc_mixed : FnScope ["_law_script", "_law_k", "_law_many", "_law_spun"] ["_law_script", "_law_k", "_law_many"] (defScope s_mixed) := ⟨rfl, rfl, rfl, by decide +kernel, rfl, by decide +kernel, by decide +kernel⟩
theorem sc_draw : FnScope ["_law_script", "_law_state", "_law_many"] ["_law_script", "_law_state", "_law_many"] (defScope s_draw) := ⟨rfl, rfl, rfl, by decide +kernel, rfl, by decide +kernel, by decide +kernel⟩
theorem sc_pick : FnScope ["_law_script", "_law_state", "_law_some"] ["_law_script", "_law_state", "_law_some"] (defScope s_pick) := ⟨rfl, rfl, rfl, by decide +kernel, rfl, by decide +kernel, by decide +kernel⟩
theorem sc_which : FnScope ["_law_e", "_law_own"] ["_law_e"] (defScope s_which) := ⟨rfl, rfl, rfl, by decide +kernel, rfl, by decide +kernel, by decide +kernel⟩
theorem sc_some_of : FnScope ["_law_script", "_law_state", "_law_some", "_law_count", "_law_left", "_law_found"] ["_law_script", "_law_state", "_law_some", "_law_count"] (defScope s_some_of) := ⟨rfl, rfl, rfl, by decide +kernel, rfl, by decide +kernel, by decide +kernel⟩
theorem sc_some_thing : FnScope ["_law_script", "_law_state", "_law_some"] ["_law_script", "_law_state"] (defScope s_some_thing) := ⟨rfl, rfl, rfl, by decide +kernel, rfl, by decide +kernel, by decide +kernel⟩
theorem sc_some_step : FnScope ["_law_script", "_law_state", "_law_things", "_law_count", "_law_names", "_law_name", "_law_reads", "_law_again"] ["_law_script", "_law_state", "_law_things", "_law_count"] (defScope s_some_step) := ⟨rfl, rfl, rfl, by decide +kernel, rfl, by decide +kernel, by decide +kernel⟩
theorem sc_some_recipe : FnScope ["_law_script", "_law_state", "_law_again", "_law_things", "_law_steps", "_law_made"] ["_law_script", "_law_state"] (defScope s_some_recipe) := ⟨rfl, rfl, rfl, by decide +kernel, rfl, by decide +kernel, by decide +kernel⟩
theorem sc_read : FnScope ["_law_text", "_law_e"] ["_law_text"] (defScope s_read) := ⟨rfl, rfl, rfl, by decide +kernel, rfl, by decide +kernel, by decide +kernel⟩
theorem sc_law : FnScope ["_law_script", "_law_state", "_law_recipe", "_law_text", "_law_again", "_law_at", "_law_sign", "_law_kind", "_law_other", "_law_own", "_law_bad", "_law_one"] ["_law_script"] (defScope s_law) := ⟨rfl, rfl, rfl, by decide +kernel, rfl, by decide +kernel, by decide +kernel⟩
/-- what the top has written -/
structure Tx0 (K : PySem.W.Frag) (mg : Str → Option Value) (w : World) where
  f_is_number : Addr
  d_is_number : FuncData
  F_is_number : Fun K "is_number" "is_number" s_is_number f_is_number d_is_number
  g_is_number : mg "is_number" = some (.ref f_is_number)
  b_is_number : Binds K d_is_number ["value", "least", "most"] []
  f_is_tuple : Addr
  d_is_tuple : FuncData
  F_is_tuple : Fun K "is_tuple" "is_tuple" s_is_tuple f_is_tuple d_is_tuple
  g_is_tuple : mg "is_tuple" = some (.ref f_is_tuple)
  b_is_tuple : Binds K d_is_tuple ["value", "least", "most"] []
  f_is_text : Addr
  d_is_text : FuncData
  F_is_text : Fun K "is_text" "is_text" s_is_text f_is_text d_is_text
  g_is_text : mg "is_text" = some (.ref f_is_text)
  b_is_text : Binds K d_is_text ["value", "longest"] []
  f_is_ascending : Addr
  d_is_ascending : FuncData
  F_is_ascending : Fun K "is_ascending" "is_ascending" s_is_ascending f_is_ascending d_is_ascending
  g_is_ascending : mg "is_ascending" = some (.ref f_is_ascending)
  b_is_ascending : Binds K d_is_ascending ["values"] []
  f_is_thing : Addr
  d_is_thing : FuncData
  F_is_thing : Fun K "is_thing" "is_thing" s_is_thing f_is_thing d_is_thing
  g_is_thing : mg "is_thing" = some (.ref f_is_thing)
  b_is_thing : Binds K d_is_thing ["value"] []
  f_are_things : Addr
  d_are_things : FuncData
  F_are_things : Fun K "are_things" "are_things" s_are_things f_are_things d_are_things
  g_are_things : mg "are_things" = some (.ref f_are_things)
  b_are_things : Binds K d_are_things ["value"] []
  f_is_reading : Addr
  d_is_reading : FuncData
  F_is_reading : Fun K "is_reading" "is_reading" s_is_reading f_is_reading d_is_reading
  g_is_reading : mg "is_reading" = some (.ref f_is_reading)
  b_is_reading : Binds K d_is_reading ["value", "many_things", "step"] []
  f_is_step : Addr
  d_is_step : FuncData
  F_is_step : Fun K "is_step" "is_step" s_is_step f_is_step d_is_step
  g_is_step : mg "is_step" = some (.ref f_is_step)
  b_is_step : Binds K d_is_step ["value", "many_things", "step"] []
  f_are_steps : Addr
  d_are_steps : FuncData
  F_are_steps : Fun K "are_steps" "are_steps" s_are_steps f_are_steps d_are_steps
  g_are_steps : mg "are_steps" = some (.ref f_are_steps)
  b_are_steps : Binds K d_are_steps ["value", "many_things"] []
  f_is_made : Addr
  d_is_made : FuncData
  F_is_made : Fun K "is_made" "is_made" s_is_made f_is_made d_is_made
  g_is_made : mg "is_made" = some (.ref f_is_made)
  b_is_made : Binds K d_is_made ["value", "many_steps"] []
  f_is_recipe : Addr
  d_is_recipe : FuncData
  F_is_recipe : Fun K "is_recipe" "is_recipe" s_is_recipe f_is_recipe d_is_recipe
  g_is_recipe : mg "is_recipe" = some (.ref f_is_recipe)
  b_is_recipe : Binds K d_is_recipe ["value"] []
  f_check_recipe : Addr
  d_check_recipe : FuncData
  F_check_recipe : Fun K "check_recipe" "check_recipe" s_check_recipe f_check_recipe d_check_recipe
  g_check_recipe : mg "check_recipe" = some (.ref f_check_recipe)
  b_check_recipe : Binds K d_check_recipe ["value"] []
structure Tx1 (K : PySem.W.Frag) (mg : Str → Option Value) (w : World) extends Tx0 K mg w where
  f_written_thing : Addr
  d_written_thing : FuncData
  F_written_thing : Fun K "written_thing" "written_thing" s_written_thing f_written_thing d_written_thing
  g_written_thing : mg "written_thing" = some (.ref f_written_thing)
  b_written_thing : Binds K d_written_thing ["thing"] []
  f_written_step : Addr
  d_written_step : FuncData
  F_written_step : Fun K "written_step" "written_step" s_written_step f_written_step d_written_step
  g_written_step : mg "written_step" = some (.ref f_written_step)
  b_written_step : Binds K d_written_step ["step"] []
  f_written : Addr
  d_written : FuncData
  F_written : Fun K "written" "written" s_written f_written d_written
  g_written : mg "written" = some (.ref f_written)
  b_written : Binds K d_written ["recipe"] []
  f_format_recipe : Addr
  d_format_recipe : FuncData
  F_format_recipe : Fun K "format_recipe" "format_recipe" s_format_recipe f_format_recipe d_format_recipe
  g_format_recipe : mg "format_recipe" = some (.ref f_format_recipe)
  b_format_recipe : Binds K d_format_recipe ["recipe"] []
  f_read_thing : Addr
  d_read_thing : FuncData
  F_read_thing : Fun K "read_thing" "read_thing" s_read_thing f_read_thing d_read_thing
  g_read_thing : mg "read_thing" = some (.ref f_read_thing)
  b_read_thing : Binds K d_read_thing ["text"] []
  f_read_number : Addr
  d_read_number : FuncData
  F_read_number : Fun K "read_number" "read_number" s_read_number f_read_number d_read_number
  g_read_number : mg "read_number" = some (.ref f_read_number)
  b_read_number : Binds K d_read_number ["text"] []
  f_read_reading : Addr
  d_read_reading : FuncData
  F_read_reading : Fun K "read_reading" "read_reading" s_read_reading f_read_reading d_read_reading
  g_read_reading : mg "read_reading" = some (.ref f_read_reading)
  b_read_reading : Binds K d_read_reading ["text"] []
  f_read_step : Addr
  d_read_step : FuncData
  F_read_step : Fun K "read_step" "read_step" s_read_step f_read_step d_read_step
  g_read_step : mg "read_step" = some (.ref f_read_step)
  b_read_step : Binds K d_read_step ["text"] []
  f_parse_recipe : Addr
  d_parse_recipe : FuncData
  F_parse_recipe : Fun K "parse_recipe" "parse_recipe" s_parse_recipe f_parse_recipe d_parse_recipe
  g_parse_recipe : mg "parse_recipe" = some (.ref f_parse_recipe)
  b_parse_recipe : Binds K d_parse_recipe ["text"] []
  f__law_cell_at : Addr
  d__law_cell_at : FuncData
  F__law_cell_at : Fun K "_law_cell_at" "_law_cell_at" s_cell_at f__law_cell_at d__law_cell_at
  g__law_cell_at : mg "_law_cell_at" = some (.ref f__law_cell_at)
  b__law_cell_at : Binds K d__law_cell_at ["_law_script", "_law_k"] []
  f__law_mixed : Addr
  d__law_mixed : FuncData
  F__law_mixed : Fun K "_law_mixed" "_law_mixed" s_mixed f__law_mixed d__law_mixed
  g__law_mixed : mg "_law_mixed" = some (.ref f__law_mixed)
  b__law_mixed : Binds K d__law_mixed ["_law_script", "_law_k", "_law_many"] []
  f__law_draw : Addr
  d__law_draw : FuncData
  F__law_draw : Fun K "_law_draw" "_law_draw" s_draw f__law_draw d__law_draw
  g__law_draw : mg "_law_draw" = some (.ref f__law_draw)
  b__law_draw : Binds K d__law_draw ["_law_script", "_law_state", "_law_many"] []
structure Tx2 (K : PySem.W.Frag) (mg : Str → Option Value) (w : World) extends Tx1 K mg w where
  f__law_pick : Addr
  d__law_pick : FuncData
  F__law_pick : Fun K "_law_pick" "_law_pick" s_pick f__law_pick d__law_pick
  g__law_pick : mg "_law_pick" = some (.ref f__law_pick)
  b__law_pick : Binds K d__law_pick ["_law_script", "_law_state", "_law_some"] []
  f__law_which : Addr
  d__law_which : FuncData
  F__law_which : Fun K "_law_which" "_law_which" s_which f__law_which d__law_which
  g__law_which : mg "_law_which" = some (.ref f__law_which)
  b__law_which : Binds K d__law_which ["_law_e"] []
  f__law_some_of : Addr
  d__law_some_of : FuncData
  F__law_some_of : Fun K "_law_some_of" "_law_some_of" s_some_of f__law_some_of d__law_some_of
  g__law_some_of : mg "_law_some_of" = some (.ref f__law_some_of)
  b__law_some_of : Binds K d__law_some_of ["_law_script", "_law_state", "_law_some", "_law_count"] []
  f__law_some_thing : Addr
  d__law_some_thing : FuncData
  F__law_some_thing : Fun K "_law_some_thing" "_law_some_thing" s_some_thing f__law_some_thing d__law_some_thing
  g__law_some_thing : mg "_law_some_thing" = some (.ref f__law_some_thing)
  b__law_some_thing : Binds K d__law_some_thing ["_law_script", "_law_state"] []
  f__law_some_step : Addr
  d__law_some_step : FuncData
  F__law_some_step : Fun K "_law_some_step" "_law_some_step" s_some_step f__law_some_step d__law_some_step
  g__law_some_step : mg "_law_some_step" = some (.ref f__law_some_step)
  b__law_some_step : Binds K d__law_some_step ["_law_script", "_law_state", "_law_things", "_law_count"] []
  f__law_some_recipe : Addr
  d__law_some_recipe : FuncData
  F__law_some_recipe : Fun K "_law_some_recipe" "_law_some_recipe" s_some_recipe f__law_some_recipe d__law_some_recipe
  g__law_some_recipe : mg "_law_some_recipe" = some (.ref f__law_some_recipe)
  b__law_some_recipe : Binds K d__law_some_recipe ["_law_script", "_law_state"] []
  f__law_read : Addr
  d__law_read : FuncData
  F__law_read : Fun K "_law_read" "_law_read" s_read f__law_read d__law_read
  g__law_read : mg "_law_read" = some (.ref f__law_read)
  b__law_read : Binds K d__law_read ["_law_text"] []
  f_law : Addr
  d_law : FuncData
  F_law : Fun K "law" "law" s_law f_law d_law
  g_law : mg "law" = some (.ref f_law)
  b_law : Binds K d_law ["_law_script"] []
  k_MOST_THINGS : Tok
  g_MOST_THINGS : mg "MOST_THINGS" = some (.int 5 k_MOST_THINGS)
  k_MOST_TEXTS : Tok
  g_MOST_TEXTS : mg "MOST_TEXTS" = some (.int 4 k_MOST_TEXTS)
  k_LONGEST_TEXT : Tok
  g_LONGEST_TEXT : mg "LONGEST_TEXT" = some (.int 4 k_LONGEST_TEXT)
  k_MOST_WORLDS : Tok
  g_MOST_WORLDS : mg "MOST_WORLDS" = some (.int 256 k_MOST_WORLDS)
  k_MOST_STEPS : Tok
  g_MOST_STEPS : mg "MOST_STEPS" = some (.int 8 k_MOST_STEPS)
  k_MOST_MADE : Tok
  g_MOST_MADE : mg "MOST_MADE" = some (.int 3 k_MOST_MADE)
  a_READINGS : Addr
  g_READINGS : mg "READINGS" = some (.ref a_READINGS)
  m_READINGS : KDm K w a_READINGS mREADINGS
  k_PARTS : Tok
  g_PARTS : mg "PARTS" = some (.str "; " k_PARTS)
  k_ITEMS : Tok
  g_ITEMS : mg "ITEMS" = some (.str ", " k_ITEMS)
  k_CHOICES : Tok
  g_CHOICES : mg "CHOICES" = some (.str "|" k_CHOICES)
structure Tx3 (K : PySem.W.Frag) (mg : Str → Option Value) (w : World) extends Tx2 K mg w where
  k_WORDS : Tok
  g_WORDS : mg "WORDS" = some (.str " " k_WORDS)
  k_EMPTY : Tok
  g_EMPTY : mg "EMPTY" = some (.str "-" k_EMPTY)
  a_SIGNS : Addr
  g_SIGNS : mg "SIGNS" = some (.ref a_SIGNS)
  m_SIGNS : KDs K w a_SIGNS mSIGNS
  a_KINDS : Addr
  g_KINDS : mg "KINDS" = some (.ref a_KINDS)
  m_KINDS : KDs K w a_KINDS mKINDS
  k_DIGITS : Tok
  g_DIGITS : mg "DIGITS" = some (.str "0123456789" k_DIGITS)
  z_len : mg "len" = none
  z_int : mg "int" = none
  z_str : mg "str" = none
  z_bool : mg "bool" = none
  z_tuple : mg "tuple" = none
  z_list : mg "list" = none
  z_isinstance : mg "isinstance" = none
  z_range : mg "range" = none
  z_min : mg "min" = none
  z_all : mg "all" = none
  z_sorted : mg "sorted" = none
  z_set : mg "set" = none
  z_ValueError : mg "ValueError" = none
  x_BuildError : Addr
  g_BuildError : mg "BuildError" = some (.ref x_BuildError)
  x_InvalidRecipe : Addr
  g_InvalidRecipe : mg "InvalidRecipe" = some (.ref x_InvalidRecipe)
  x_InvalidActs : Addr
  g_InvalidActs : mg "InvalidActs" = some (.ref x_InvalidActs)
  x_InvalidAct : Addr
  g_InvalidAct : mg "InvalidAct" = some (.ref x_InvalidAct)
  x_InvalidWorld : Addr
  g_InvalidWorld : mg "InvalidWorld" = some (.ref x_InvalidWorld)
  x_InvalidWorlds : Addr
  g_InvalidWorlds : mg "InvalidWorlds" = some (.ref x_InvalidWorlds)
  x_InvalidStep : Addr
  g_InvalidStep : mg "InvalidStep" = some (.ref x_InvalidStep)
  x_InvalidOffers : Addr
  g_InvalidOffers : mg "InvalidOffers" = some (.ref x_InvalidOffers)
  x_InvalidWish : Addr
  g_InvalidWish : mg "InvalidWish" = some (.ref x_InvalidWish)
  x_InvalidNumber : Addr
  g_InvalidNumber : mg "InvalidNumber" = some (.ref x_InvalidNumber)
  x_NotLeft : Addr
  g_NotLeft : mg "NotLeft" = some (.ref x_NotLeft)
  x_Unlike : Addr
  g_Unlike : mg "Unlike" = some (.ref x_Unlike)
  x_NotOffered : Addr
  g_NotOffered : mg "NotOffered" = some (.ref x_NotOffered)
  x_Bought : Addr
  g_Bought : mg "Bought" = some (.ref x_Bought)
  x_NothingToUndo : Addr
  g_NothingToUndo : mg "NothingToUndo" = some (.ref x_NothingToUndo)
  x_ParseError : Addr
  g_ParseError : mg "ParseError" = some (.ref x_ParseError)
  E_InvalidRecipe : ErrOk K x_InvalidRecipe x_BuildError
  kV_InvalidRecipe : PySem.W.kitOne K (.ref x_InvalidRecipe) (.type "ValueError") = some true
  k_InvalidRecipe_InvalidRecipe : PySem.W.kitOne K (.ref x_InvalidRecipe) (.ref x_InvalidRecipe) = some true
structure Tx (K : PySem.W.Frag) (mg : Str → Option Value) (w : World) extends Tx3 K mg w where
  k_InvalidRecipe_InvalidActs : PySem.W.kitOne K (.ref x_InvalidRecipe) (.ref x_InvalidActs) = some false
  k_InvalidRecipe_InvalidAct : PySem.W.kitOne K (.ref x_InvalidRecipe) (.ref x_InvalidAct) = some false
  k_InvalidRecipe_InvalidWorld : PySem.W.kitOne K (.ref x_InvalidRecipe) (.ref x_InvalidWorld) = some false
  k_InvalidRecipe_InvalidWorlds : PySem.W.kitOne K (.ref x_InvalidRecipe) (.ref x_InvalidWorlds) = some false
  k_InvalidRecipe_InvalidStep : PySem.W.kitOne K (.ref x_InvalidRecipe) (.ref x_InvalidStep) = some false
  k_InvalidRecipe_InvalidOffers : PySem.W.kitOne K (.ref x_InvalidRecipe) (.ref x_InvalidOffers) = some false
  k_InvalidRecipe_InvalidWish : PySem.W.kitOne K (.ref x_InvalidRecipe) (.ref x_InvalidWish) = some false
  k_InvalidRecipe_InvalidNumber : PySem.W.kitOne K (.ref x_InvalidRecipe) (.ref x_InvalidNumber) = some false
  k_InvalidRecipe_NotLeft : PySem.W.kitOne K (.ref x_InvalidRecipe) (.ref x_NotLeft) = some false
  k_InvalidRecipe_Unlike : PySem.W.kitOne K (.ref x_InvalidRecipe) (.ref x_Unlike) = some false
  k_InvalidRecipe_NotOffered : PySem.W.kitOne K (.ref x_InvalidRecipe) (.ref x_NotOffered) = some false
  k_InvalidRecipe_Bought : PySem.W.kitOne K (.ref x_InvalidRecipe) (.ref x_Bought) = some false
  k_InvalidRecipe_NothingToUndo : PySem.W.kitOne K (.ref x_InvalidRecipe) (.ref x_NothingToUndo) = some false
  k_InvalidRecipe_ParseError : PySem.W.kitOne K (.ref x_InvalidRecipe) (.ref x_ParseError) = some false
  E_ParseError : ErrOk K x_ParseError x_BuildError
  kV_ParseError : PySem.W.kitOne K (.ref x_ParseError) (.type "ValueError") = some true
  k_ParseError_InvalidRecipe : PySem.W.kitOne K (.ref x_ParseError) (.ref x_InvalidRecipe) = some false
  k_ParseError_InvalidActs : PySem.W.kitOne K (.ref x_ParseError) (.ref x_InvalidActs) = some false
  k_ParseError_InvalidAct : PySem.W.kitOne K (.ref x_ParseError) (.ref x_InvalidAct) = some false
  k_ParseError_InvalidWorld : PySem.W.kitOne K (.ref x_ParseError) (.ref x_InvalidWorld) = some false
  k_ParseError_InvalidWorlds : PySem.W.kitOne K (.ref x_ParseError) (.ref x_InvalidWorlds) = some false
  k_ParseError_InvalidStep : PySem.W.kitOne K (.ref x_ParseError) (.ref x_InvalidStep) = some false
  k_ParseError_InvalidOffers : PySem.W.kitOne K (.ref x_ParseError) (.ref x_InvalidOffers) = some false
  k_ParseError_InvalidWish : PySem.W.kitOne K (.ref x_ParseError) (.ref x_InvalidWish) = some false
  k_ParseError_InvalidNumber : PySem.W.kitOne K (.ref x_ParseError) (.ref x_InvalidNumber) = some false
  k_ParseError_NotLeft : PySem.W.kitOne K (.ref x_ParseError) (.ref x_NotLeft) = some false
  k_ParseError_Unlike : PySem.W.kitOne K (.ref x_ParseError) (.ref x_Unlike) = some false
  k_ParseError_NotOffered : PySem.W.kitOne K (.ref x_ParseError) (.ref x_NotOffered) = some false
  k_ParseError_Bought : PySem.W.kitOne K (.ref x_ParseError) (.ref x_Bought) = some false
  k_ParseError_NothingToUndo : PySem.W.kitOne K (.ref x_ParseError) (.ref x_NothingToUndo) = some false
  k_ParseError_ParseError : PySem.W.kitOne K (.ref x_ParseError) (.ref x_ParseError) = some true
def fuel : Nat := 100000
def bw_InvalidRecipe (a : Addr) : FS :=
    (sSeq (sAsg 1 (fLst (faCons (fIsE 0 a true) (faCons (fIsE 0 a false) (faCons (fIsE 0 a false) faNil)))))
    (sSeq (sExt 1 (fLst (faCons (fIsE 0 a false) (faCons (fIsE 0 a false) (faCons (fIsE 0 a false) faNil)))))
    (sSeq (sExt 1 (fLst (faCons (fIsE 0 a false) (faCons (fIsE 0 a false) (faCons (fIsE 0 a false) faNil)))))
    (sSeq (sExt 1 (fLst (faCons (fIsE 0 a false) (faCons (fIsE 0 a false) (faCons (fIsE 0 a false) (faCons (fIsE 0 a false) faNil))))))
    (sSeq (sExt 1 (fLst (faCons (fIsE 0 a false) (faCons (fIsE 0 a false) faNil))))
    (sSeq (sIf (tOrF (bT (fOp2 (seeB (eqD true)) (fMt "list" countLG (fVar 1) (faCons (fC (.bool true)) faNil)) (fC (.int 1)))) (tNotF (bT (fIsE 0 a true))))
    (sRet (fTup (faCons (fC (.str "raised")) (faCons (fNeg (fC (.int 1))) faNil))))
    sNx)
    (sFrz [1] (sRet (fTup (faCons (fC (.str "raised")) (faCons (fMt "list" indexG (fVar 1) (faCons (fC (.bool true)) faNil)) faNil)))))))))))
theorem okw_InvalidRecipe {P : Program} {w : World} {K : PySem.W.Frag} {mg : Str → Option Value} {base : Heap} (T : Tx K mg w) : FnW P w K mg base 1 T.f__law_which T.d__law_which "_law_e" T.x_InvalidRecipe (raisedD 0) := whichOk (body := bw_InvalidRecipe) T.F__law_which sc_which (fun a n => ⟨_, seq_go (e1 := [some (.kn (.ref a)), some (.cell [.bool true, .bool false, .bool false])]) (n1 := n) (by simp only [argsE, List.map, List.replicate, List.cons_append, List.nil_append, Nat.reduceSub, sAsg, sExt, fLst, faCons, fIsE_kn, faNil]; rfl) (seq_go (e1 := [some (.kn (.ref a)), some (.cell [.bool true, .bool false, .bool false, .bool false, .bool false, .bool false])]) (n1 := n) (by simp only [argsE, List.map, List.replicate, List.cons_append, List.nil_append, Nat.reduceSub, sAsg, sExt, fLst, faCons, fIsE_kn, faNil]; rfl) (seq_go (e1 := [some (.kn (.ref a)), some (.cell [.bool true, .bool false, .bool false, .bool false, .bool false, .bool false, .bool false, .bool false, .bool false])]) (n1 := n) (by simp only [argsE, List.map, List.replicate, List.cons_append, List.nil_append, Nat.reduceSub, sAsg, sExt, fLst, faCons, fIsE_kn, faNil]; rfl) (seq_go (e1 := [some (.kn (.ref a)), some (.cell [.bool true, .bool false, .bool false, .bool false, .bool false, .bool false, .bool false, .bool false, .bool false, .bool false, .bool false, .bool false, .bool false])]) (n1 := n) (by simp only [argsE, List.map, List.replicate, List.cons_append, List.nil_append, Nat.reduceSub, sAsg, sExt, fLst, faCons, fIsE_kn, faNil]; rfl) (seq_go (e1 := [some (.kn (.ref a)), some (.cell [.bool true, .bool false, .bool false, .bool false, .bool false, .bool false, .bool false, .bool false, .bool false, .bool false, .bool false, .bool false, .bool false, .bool false, .bool false])]) (n1 := n) (by simp only [argsE, List.map, List.replicate, List.cons_append, List.nil_append, Nat.reduceSub, sAsg, sExt, fLst, faCons, fIsE_kn, faNil]; rfl) (seq_go (e1 := [some (.kn (.ref a)), some (.cell [.bool true, .bool false, .bool false, .bool false, .bool false, .bool false, .bool false, .bool false, .bool false, .bool false, .bool false, .bool false, .bool false, .bool false, .bool false])]) (n1 := n) (by simp only [sIf, tOrF, tNotF, bT, fIsE_kn]; rfl) (by rfl))))))⟩) fun cdv A outer s H E p hot hr hz hf =>
    (b_cons (s_set (ps_set (i := 1) sc_which.nd rfl (Or.inl rfl) (e_lst (a_cons (e_isE (i := 0) (a := p.1) (oe := p.2) (u := (.ref T.x_InvalidRecipe)) List.mem_cons_self T.E_InvalidRecipe.ex hz hf (fun _ h => h) T.k_InvalidRecipe_InvalidRecipe (by rfl) T.z_isinstance (pa_cons (pv 0) (pa_cons (pe_glob (v := .ref T.x_InvalidRecipe) (by rfl) T.g_InvalidRecipe rfl) pa_nil))) (a_cons (e_isE (i := 0) (a := p.1) (oe := p.2) (u := (.ref T.x_InvalidActs)) List.mem_cons_self T.E_InvalidRecipe.ex hz hf (fun _ h => h) T.k_InvalidRecipe_InvalidActs (by rfl) T.z_isinstance (pa_cons (pv 0) (pa_cons (pe_glob (v := .ref T.x_InvalidActs) (by rfl) T.g_InvalidActs rfl) pa_nil))) (a_cons (e_isE (i := 0) (a := p.1) (oe := p.2) (u := (.ref T.x_InvalidAct)) List.mem_cons_self T.E_InvalidRecipe.ex hz hf (fun _ h => h) T.k_InvalidRecipe_InvalidAct (by rfl) T.z_isinstance (pa_cons (pv 0) (pa_cons (pe_glob (v := .ref T.x_InvalidAct) (by rfl) T.g_InvalidAct rfl) pa_nil))) a_nil))))))
    (b_cons (s_ext (ps_expr (pe_bm PySem.F.plainAttrs_list PySem.F.slot_list_extend PySem.F.type_list_extend mt_extend (pv 1) (pa_cons (e_lst (a_cons (e_isE (i := 0) (a := p.1) (oe := p.2) (u := (.ref T.x_InvalidWorld)) List.mem_cons_self T.E_InvalidRecipe.ex hz hf (fun _ h => h) T.k_InvalidRecipe_InvalidWorld (by rfl) T.z_isinstance (pa_cons (pv 0) (pa_cons (pe_glob (v := .ref T.x_InvalidWorld) (by rfl) T.g_InvalidWorld rfl) pa_nil))) (a_cons (e_isE (i := 0) (a := p.1) (oe := p.2) (u := (.ref T.x_InvalidWorlds)) List.mem_cons_self T.E_InvalidRecipe.ex hz hf (fun _ h => h) T.k_InvalidRecipe_InvalidWorlds (by rfl) T.z_isinstance (pa_cons (pv 0) (pa_cons (pe_glob (v := .ref T.x_InvalidWorlds) (by rfl) T.g_InvalidWorlds rfl) pa_nil))) (a_cons (e_isE (i := 0) (a := p.1) (oe := p.2) (u := (.ref T.x_InvalidStep)) List.mem_cons_self T.E_InvalidRecipe.ex hz hf (fun _ h => h) T.k_InvalidRecipe_InvalidStep (by rfl) T.z_isinstance (pa_cons (pv 0) (pa_cons (pe_glob (v := .ref T.x_InvalidStep) (by rfl) T.g_InvalidStep rfl) pa_nil))) a_nil)))) pa_nil))))
    (b_cons (s_ext (ps_expr (pe_bm PySem.F.plainAttrs_list PySem.F.slot_list_extend PySem.F.type_list_extend mt_extend (pv 1) (pa_cons (e_lst (a_cons (e_isE (i := 0) (a := p.1) (oe := p.2) (u := (.ref T.x_InvalidOffers)) List.mem_cons_self T.E_InvalidRecipe.ex hz hf (fun _ h => h) T.k_InvalidRecipe_InvalidOffers (by rfl) T.z_isinstance (pa_cons (pv 0) (pa_cons (pe_glob (v := .ref T.x_InvalidOffers) (by rfl) T.g_InvalidOffers rfl) pa_nil))) (a_cons (e_isE (i := 0) (a := p.1) (oe := p.2) (u := (.ref T.x_InvalidWish)) List.mem_cons_self T.E_InvalidRecipe.ex hz hf (fun _ h => h) T.k_InvalidRecipe_InvalidWish (by rfl) T.z_isinstance (pa_cons (pv 0) (pa_cons (pe_glob (v := .ref T.x_InvalidWish) (by rfl) T.g_InvalidWish rfl) pa_nil))) (a_cons (e_isE (i := 0) (a := p.1) (oe := p.2) (u := (.ref T.x_InvalidNumber)) List.mem_cons_self T.E_InvalidRecipe.ex hz hf (fun _ h => h) T.k_InvalidRecipe_InvalidNumber (by rfl) T.z_isinstance (pa_cons (pv 0) (pa_cons (pe_glob (v := .ref T.x_InvalidNumber) (by rfl) T.g_InvalidNumber rfl) pa_nil))) a_nil)))) pa_nil))))
    (b_cons (s_ext (ps_expr (pe_bm PySem.F.plainAttrs_list PySem.F.slot_list_extend PySem.F.type_list_extend mt_extend (pv 1) (pa_cons (e_lst (a_cons (e_isE (i := 0) (a := p.1) (oe := p.2) (u := (.ref T.x_NotLeft)) List.mem_cons_self T.E_InvalidRecipe.ex hz hf (fun _ h => h) T.k_InvalidRecipe_NotLeft (by rfl) T.z_isinstance (pa_cons (pv 0) (pa_cons (pe_glob (v := .ref T.x_NotLeft) (by rfl) T.g_NotLeft rfl) pa_nil))) (a_cons (e_isE (i := 0) (a := p.1) (oe := p.2) (u := (.ref T.x_Unlike)) List.mem_cons_self T.E_InvalidRecipe.ex hz hf (fun _ h => h) T.k_InvalidRecipe_Unlike (by rfl) T.z_isinstance (pa_cons (pv 0) (pa_cons (pe_glob (v := .ref T.x_Unlike) (by rfl) T.g_Unlike rfl) pa_nil))) (a_cons (e_isE (i := 0) (a := p.1) (oe := p.2) (u := (.ref T.x_NotOffered)) List.mem_cons_self T.E_InvalidRecipe.ex hz hf (fun _ h => h) T.k_InvalidRecipe_NotOffered (by rfl) T.z_isinstance (pa_cons (pv 0) (pa_cons (pe_glob (v := .ref T.x_NotOffered) (by rfl) T.g_NotOffered rfl) pa_nil))) (a_cons (e_isE (i := 0) (a := p.1) (oe := p.2) (u := (.ref T.x_Bought)) List.mem_cons_self T.E_InvalidRecipe.ex hz hf (fun _ h => h) T.k_InvalidRecipe_Bought (by rfl) T.z_isinstance (pa_cons (pv 0) (pa_cons (pe_glob (v := .ref T.x_Bought) (by rfl) T.g_Bought rfl) pa_nil))) a_nil))))) pa_nil))))
    (b_cons (s_ext (ps_expr (pe_bm PySem.F.plainAttrs_list PySem.F.slot_list_extend PySem.F.type_list_extend mt_extend (pv 1) (pa_cons (e_lst (a_cons (e_isE (i := 0) (a := p.1) (oe := p.2) (u := (.ref T.x_NothingToUndo)) List.mem_cons_self T.E_InvalidRecipe.ex hz hf (fun _ h => h) T.k_InvalidRecipe_NothingToUndo (by rfl) T.z_isinstance (pa_cons (pv 0) (pa_cons (pe_glob (v := .ref T.x_NothingToUndo) (by rfl) T.g_NothingToUndo rfl) pa_nil))) (a_cons (e_isE (i := 0) (a := p.1) (oe := p.2) (u := (.ref T.x_ParseError)) List.mem_cons_self T.E_InvalidRecipe.ex hz hf (fun _ h => h) T.k_InvalidRecipe_ParseError (by rfl) T.z_isinstance (pa_cons (pv 0) (pa_cons (pe_glob (v := .ref T.x_ParseError) (by rfl) T.g_ParseError rfl) pa_nil))) a_nil))) pa_nil))))
    (b_cons (s_ite (PW.pt (w_or (t_cmp (op_neA hr.units) (RDs.do rd_neD') (e_mt md_countL (pe_bm PySem.F.plainAttrs_list PySem.F.slot_list_count PySem.F.type_list_count (mt_countD (unitsH hr)) (e_var (pv 1)) (a_cons e_bl a_nil))) e_int (nomark _)) (pw_or1 (t_not (t_val (e_isE (i := 0) (a := p.1) (oe := p.2) (u := (.ty "ValueError")) List.mem_cons_self T.E_InvalidRecipe.ex hz hf (fun _ h => h) T.kV_InvalidRecipe (by rfl) T.z_isinstance (pa_cons (pv 0) (pa_cons (pe_bltn (v := .ty "ValueError") (by rfl) T.z_ValueError (by decide +kernel) rfl) pa_nil))))))))
    (b_one (s_retE (ps_ret (e_tup (a_cons e_str (a_cons (e_neg e_int) a_nil))))))
    b_nil)
    (b_one (s_frz (is := [1]) (s_retE (ps_ret (e_tup (a_cons e_str (a_cons (e_mt md_index (pe_bm PySem.F.plainAttrs_list PySem.F.slot_list_index PySem.F.type_list_index (mt_indexD (unitsH hr)) (e_var (pv 1)) (a_cons e_bl a_nil))) a_nil)))))))))))))
def bw_ParseError (a : Addr) : FS :=
    (sSeq (sAsg 1 (fLst (faCons (fIsE 0 a false) (faCons (fIsE 0 a false) (faCons (fIsE 0 a false) faNil)))))
    (sSeq (sExt 1 (fLst (faCons (fIsE 0 a false) (faCons (fIsE 0 a false) (faCons (fIsE 0 a false) faNil)))))
    (sSeq (sExt 1 (fLst (faCons (fIsE 0 a false) (faCons (fIsE 0 a false) (faCons (fIsE 0 a false) faNil)))))
    (sSeq (sExt 1 (fLst (faCons (fIsE 0 a false) (faCons (fIsE 0 a false) (faCons (fIsE 0 a false) (faCons (fIsE 0 a false) faNil))))))
    (sSeq (sExt 1 (fLst (faCons (fIsE 0 a false) (faCons (fIsE 0 a true) faNil))))
    (sSeq (sIf (tOrF (bT (fOp2 (seeB (eqD true)) (fMt "list" countLG (fVar 1) (faCons (fC (.bool true)) faNil)) (fC (.int 1)))) (tNotF (bT (fIsE 0 a true))))
    (sRet (fTup (faCons (fC (.str "raised")) (faCons (fNeg (fC (.int 1))) faNil))))
    sNx)
    (sFrz [1] (sRet (fTup (faCons (fC (.str "raised")) (faCons (fMt "list" indexG (fVar 1) (faCons (fC (.bool true)) faNil)) faNil)))))))))))
theorem okw_ParseError {P : Program} {w : World} {K : PySem.W.Frag} {mg : Str → Option Value} {base : Heap} (T : Tx K mg w) : FnW P w K mg base 1 T.f__law_which T.d__law_which "_law_e" T.x_ParseError (raisedD 14) := whichOk (body := bw_ParseError) T.F__law_which sc_which (fun a n => ⟨_, seq_go (e1 := [some (.kn (.ref a)), some (.cell [.bool false, .bool false, .bool false])]) (n1 := n) (by simp only [argsE, List.map, List.replicate, List.cons_append, List.nil_append, Nat.reduceSub, sAsg, sExt, fLst, faCons, fIsE_kn, faNil]; rfl) (seq_go (e1 := [some (.kn (.ref a)), some (.cell [.bool false, .bool false, .bool false, .bool false, .bool false, .bool false])]) (n1 := n) (by simp only [argsE, List.map, List.replicate, List.cons_append, List.nil_append, Nat.reduceSub, sAsg, sExt, fLst, faCons, fIsE_kn, faNil]; rfl) (seq_go (e1 := [some (.kn (.ref a)), some (.cell [.bool false, .bool false, .bool false, .bool false, .bool false, .bool false, .bool false, .bool false, .bool false])]) (n1 := n) (by simp only [argsE, List.map, List.replicate, List.cons_append, List.nil_append, Nat.reduceSub, sAsg, sExt, fLst, faCons, fIsE_kn, faNil]; rfl) (seq_go (e1 := [some (.kn (.ref a)), some (.cell [.bool false, .bool false, .bool false, .bool false, .bool false, .bool false, .bool false, .bool false, .bool false, .bool false, .bool false, .bool false, .bool false])]) (n1 := n) (by simp only [argsE, List.map, List.replicate, List.cons_append, List.nil_append, Nat.reduceSub, sAsg, sExt, fLst, faCons, fIsE_kn, faNil]; rfl) (seq_go (e1 := [some (.kn (.ref a)), some (.cell [.bool false, .bool false, .bool false, .bool false, .bool false, .bool false, .bool false, .bool false, .bool false, .bool false, .bool false, .bool false, .bool false, .bool false, .bool true])]) (n1 := n) (by simp only [argsE, List.map, List.replicate, List.cons_append, List.nil_append, Nat.reduceSub, sAsg, sExt, fLst, faCons, fIsE_kn, faNil]; rfl) (seq_go (e1 := [some (.kn (.ref a)), some (.cell [.bool false, .bool false, .bool false, .bool false, .bool false, .bool false, .bool false, .bool false, .bool false, .bool false, .bool false, .bool false, .bool false, .bool false, .bool true])]) (n1 := n) (by simp only [sIf, tOrF, tNotF, bT, fIsE_kn]; rfl) (by rfl))))))⟩) fun cdv A outer s H E p hot hr hz hf =>
    (b_cons (s_set (ps_set (i := 1) sc_which.nd rfl (Or.inl rfl) (e_lst (a_cons (e_isE (i := 0) (a := p.1) (oe := p.2) (u := (.ref T.x_InvalidRecipe)) List.mem_cons_self T.E_ParseError.ex hz hf (fun _ h => h) T.k_ParseError_InvalidRecipe (by rfl) T.z_isinstance (pa_cons (pv 0) (pa_cons (pe_glob (v := .ref T.x_InvalidRecipe) (by rfl) T.g_InvalidRecipe rfl) pa_nil))) (a_cons (e_isE (i := 0) (a := p.1) (oe := p.2) (u := (.ref T.x_InvalidActs)) List.mem_cons_self T.E_ParseError.ex hz hf (fun _ h => h) T.k_ParseError_InvalidActs (by rfl) T.z_isinstance (pa_cons (pv 0) (pa_cons (pe_glob (v := .ref T.x_InvalidActs) (by rfl) T.g_InvalidActs rfl) pa_nil))) (a_cons (e_isE (i := 0) (a := p.1) (oe := p.2) (u := (.ref T.x_InvalidAct)) List.mem_cons_self T.E_ParseError.ex hz hf (fun _ h => h) T.k_ParseError_InvalidAct (by rfl) T.z_isinstance (pa_cons (pv 0) (pa_cons (pe_glob (v := .ref T.x_InvalidAct) (by rfl) T.g_InvalidAct rfl) pa_nil))) a_nil))))))
    (b_cons (s_ext (ps_expr (pe_bm PySem.F.plainAttrs_list PySem.F.slot_list_extend PySem.F.type_list_extend mt_extend (pv 1) (pa_cons (e_lst (a_cons (e_isE (i := 0) (a := p.1) (oe := p.2) (u := (.ref T.x_InvalidWorld)) List.mem_cons_self T.E_ParseError.ex hz hf (fun _ h => h) T.k_ParseError_InvalidWorld (by rfl) T.z_isinstance (pa_cons (pv 0) (pa_cons (pe_glob (v := .ref T.x_InvalidWorld) (by rfl) T.g_InvalidWorld rfl) pa_nil))) (a_cons (e_isE (i := 0) (a := p.1) (oe := p.2) (u := (.ref T.x_InvalidWorlds)) List.mem_cons_self T.E_ParseError.ex hz hf (fun _ h => h) T.k_ParseError_InvalidWorlds (by rfl) T.z_isinstance (pa_cons (pv 0) (pa_cons (pe_glob (v := .ref T.x_InvalidWorlds) (by rfl) T.g_InvalidWorlds rfl) pa_nil))) (a_cons (e_isE (i := 0) (a := p.1) (oe := p.2) (u := (.ref T.x_InvalidStep)) List.mem_cons_self T.E_ParseError.ex hz hf (fun _ h => h) T.k_ParseError_InvalidStep (by rfl) T.z_isinstance (pa_cons (pv 0) (pa_cons (pe_glob (v := .ref T.x_InvalidStep) (by rfl) T.g_InvalidStep rfl) pa_nil))) a_nil)))) pa_nil))))
    (b_cons (s_ext (ps_expr (pe_bm PySem.F.plainAttrs_list PySem.F.slot_list_extend PySem.F.type_list_extend mt_extend (pv 1) (pa_cons (e_lst (a_cons (e_isE (i := 0) (a := p.1) (oe := p.2) (u := (.ref T.x_InvalidOffers)) List.mem_cons_self T.E_ParseError.ex hz hf (fun _ h => h) T.k_ParseError_InvalidOffers (by rfl) T.z_isinstance (pa_cons (pv 0) (pa_cons (pe_glob (v := .ref T.x_InvalidOffers) (by rfl) T.g_InvalidOffers rfl) pa_nil))) (a_cons (e_isE (i := 0) (a := p.1) (oe := p.2) (u := (.ref T.x_InvalidWish)) List.mem_cons_self T.E_ParseError.ex hz hf (fun _ h => h) T.k_ParseError_InvalidWish (by rfl) T.z_isinstance (pa_cons (pv 0) (pa_cons (pe_glob (v := .ref T.x_InvalidWish) (by rfl) T.g_InvalidWish rfl) pa_nil))) (a_cons (e_isE (i := 0) (a := p.1) (oe := p.2) (u := (.ref T.x_InvalidNumber)) List.mem_cons_self T.E_ParseError.ex hz hf (fun _ h => h) T.k_ParseError_InvalidNumber (by rfl) T.z_isinstance (pa_cons (pv 0) (pa_cons (pe_glob (v := .ref T.x_InvalidNumber) (by rfl) T.g_InvalidNumber rfl) pa_nil))) a_nil)))) pa_nil))))
    (b_cons (s_ext (ps_expr (pe_bm PySem.F.plainAttrs_list PySem.F.slot_list_extend PySem.F.type_list_extend mt_extend (pv 1) (pa_cons (e_lst (a_cons (e_isE (i := 0) (a := p.1) (oe := p.2) (u := (.ref T.x_NotLeft)) List.mem_cons_self T.E_ParseError.ex hz hf (fun _ h => h) T.k_ParseError_NotLeft (by rfl) T.z_isinstance (pa_cons (pv 0) (pa_cons (pe_glob (v := .ref T.x_NotLeft) (by rfl) T.g_NotLeft rfl) pa_nil))) (a_cons (e_isE (i := 0) (a := p.1) (oe := p.2) (u := (.ref T.x_Unlike)) List.mem_cons_self T.E_ParseError.ex hz hf (fun _ h => h) T.k_ParseError_Unlike (by rfl) T.z_isinstance (pa_cons (pv 0) (pa_cons (pe_glob (v := .ref T.x_Unlike) (by rfl) T.g_Unlike rfl) pa_nil))) (a_cons (e_isE (i := 0) (a := p.1) (oe := p.2) (u := (.ref T.x_NotOffered)) List.mem_cons_self T.E_ParseError.ex hz hf (fun _ h => h) T.k_ParseError_NotOffered (by rfl) T.z_isinstance (pa_cons (pv 0) (pa_cons (pe_glob (v := .ref T.x_NotOffered) (by rfl) T.g_NotOffered rfl) pa_nil))) (a_cons (e_isE (i := 0) (a := p.1) (oe := p.2) (u := (.ref T.x_Bought)) List.mem_cons_self T.E_ParseError.ex hz hf (fun _ h => h) T.k_ParseError_Bought (by rfl) T.z_isinstance (pa_cons (pv 0) (pa_cons (pe_glob (v := .ref T.x_Bought) (by rfl) T.g_Bought rfl) pa_nil))) a_nil))))) pa_nil))))
    (b_cons (s_ext (ps_expr (pe_bm PySem.F.plainAttrs_list PySem.F.slot_list_extend PySem.F.type_list_extend mt_extend (pv 1) (pa_cons (e_lst (a_cons (e_isE (i := 0) (a := p.1) (oe := p.2) (u := (.ref T.x_NothingToUndo)) List.mem_cons_self T.E_ParseError.ex hz hf (fun _ h => h) T.k_ParseError_NothingToUndo (by rfl) T.z_isinstance (pa_cons (pv 0) (pa_cons (pe_glob (v := .ref T.x_NothingToUndo) (by rfl) T.g_NothingToUndo rfl) pa_nil))) (a_cons (e_isE (i := 0) (a := p.1) (oe := p.2) (u := (.ref T.x_ParseError)) List.mem_cons_self T.E_ParseError.ex hz hf (fun _ h => h) T.k_ParseError_ParseError (by rfl) T.z_isinstance (pa_cons (pv 0) (pa_cons (pe_glob (v := .ref T.x_ParseError) (by rfl) T.g_ParseError rfl) pa_nil))) a_nil))) pa_nil))))
    (b_cons (s_ite (PW.pt (w_or (t_cmp (op_neA hr.units) (RDs.do rd_neD') (e_mt md_countL (pe_bm PySem.F.plainAttrs_list PySem.F.slot_list_count PySem.F.type_list_count (mt_countD (unitsH hr)) (e_var (pv 1)) (a_cons e_bl a_nil))) e_int (nomark _)) (pw_or1 (t_not (t_val (e_isE (i := 0) (a := p.1) (oe := p.2) (u := (.ty "ValueError")) List.mem_cons_self T.E_ParseError.ex hz hf (fun _ h => h) T.kV_ParseError (by rfl) T.z_isinstance (pa_cons (pv 0) (pa_cons (pe_bltn (v := .ty "ValueError") (by rfl) T.z_ValueError (by decide +kernel) rfl) pa_nil))))))))
    (b_one (s_retE (ps_ret (e_tup (a_cons e_str (a_cons (e_neg e_int) a_nil))))))
    b_nil)
    (b_one (s_frz (is := [1]) (s_retE (ps_ret (e_tup (a_cons e_str (a_cons (e_mt md_index (pe_bm PySem.F.plainAttrs_list PySem.F.slot_list_index PySem.F.type_list_index (mt_indexD (unitsH hr)) (e_var (pv 1)) (a_cons e_bl a_nil))) a_nil)))))))))))))
def gRaised (c : Str) : Option PyData := if c = "InvalidRecipe" then some (raisedD 0) else if c = "ParseError" then some (raisedD 14) else none
theorem told_of {P : Program} {w : World} {K : PySem.W.Frag} {mg : Str → Option Value} {base : Heap} (T : Tx K mg w) : Told P w K mg base 1 T.f__law_which T.d__law_which "_law_e" T.x_BuildError gRaised := ⟨fun c r h => by
  by_cases h0 : c = "InvalidRecipe"
  · subst h0
    have e : gRaised "InvalidRecipe" = some (raisedD 0) := by rfl
    rw [e] at h
    cases h
    exact ⟨_, T.g_InvalidRecipe, T.E_InvalidRecipe.te, okw_InvalidRecipe T⟩
  by_cases h1 : c = "ParseError"
  · subst h1
    have e : gRaised "ParseError" = some (raisedD 14) := by rfl
    rw [e] at h
    cases h
    exact ⟨_, T.g_ParseError, T.E_ParseError.te, okw_ParseError T⟩
  unfold gRaised at h
  simp only [if_neg h0, if_neg h1, reduceCtorEq] at h⟩
def b_is_number : FS :=
    (sRet (fAnd (fIsi isInt (fVar 0)) (fAnd (fNot (fIsi isBool (fVar 0))) (fChain (seeB (ordD .LtE)) (seeB (ordD .LtE)) (fVar 1) (fVar 0) (fVar 2)))))
def F_is_number : FF := runF 3 3 b_is_number
section
variable {P : Program} {w : World} {K : PySem.W.Frag} {mg : Str → Option Value} {base : Heap}
theorem ok_is_number (T : Tx K mg w) : FnOk P w K mg base CX0 1 T.f_is_number T.d_is_number ["value", "least", "most"] (spF ⟨K, P, w⟩ 3 F_is_number) := by
  have h : FnOk P w K mg base CX0 1 T.f_is_number T.d_is_number ["value", "least", "most"] (spF ⟨K, P, w⟩ [("value" : Str), ("least" : Str), ("most" : Str)].length (runF [("value" : Str), ("least" : Str), ("most" : Str)].length [("value" : Str), ("least" : Str), ("most" : Str)].length b_is_number)) := fn_pi (body := b_is_number) T.F_is_number sc_is_number fun cdv A outer s H E hr =>
    (b_one (s_retE (ps_ret (e_and (e_isi (T := "int") (kit_int _) (by rfl) T.z_isinstance (pa_cons (e_var (pv 0)) (pa_cons (pe_bltn (v := .ty "int") (by rfl) T.z_int (by decide +kernel) rfl) pa_nil))) (e_and (e_not (e_isi (T := "bool") (kit_bool _) (by rfl) T.z_isinstance (pa_cons (e_var (pv 0)) (pa_cons (pe_bltn (v := .ty "bool") (by rfl) T.z_bool (by decide +kernel) rfl) pa_nil)))) (pe_one (e_chain (op_ord (.inr (.inr (.inl rfl))) hr.units) (RDs.do rd_ord) (op_ord (.inr (.inr (.inl rfl))) hr.units) (RDs.do rd_ord) (e_var (pv 1)) (e_var (pv 0)) (e_var (pv 2)))))))))
  exact h
end
def b_is_tuple : FS :=
    (sRet (fAnd (fIsi isTup (fVar 0)) (fChain (seeB (ordD .LtE)) (seeB (ordD .LtE)) (fVar 1) (lenS (faCons (fVar 0) faNil)) (fVar 2))))
def F_is_tuple : FF := runF 3 3 b_is_tuple
section
variable {P : Program} {w : World} {K : PySem.W.Frag} {mg : Str → Option Value} {base : Heap}
theorem ok_is_tuple (T : Tx K mg w) : FnOk P w K mg base CX0 1 T.f_is_tuple T.d_is_tuple ["value", "least", "most"] (spF ⟨K, P, w⟩ 3 F_is_tuple) := by
  have h : FnOk P w K mg base CX0 1 T.f_is_tuple T.d_is_tuple ["value", "least", "most"] (spF ⟨K, P, w⟩ [("value" : Str), ("least" : Str), ("most" : Str)].length (runF [("value" : Str), ("least" : Str), ("most" : Str)].length [("value" : Str), ("least" : Str), ("most" : Str)].length b_is_tuple)) := fn_pi (body := b_is_tuple) T.F_is_tuple sc_is_tuple fun cdv A outer s H E hr =>
    (b_one (s_retE (ps_ret (e_and (e_isi (T := "tuple") (kit_tup _) (by rfl) T.z_isinstance (pa_cons (e_var (pv 0)) (pa_cons (pe_bltn (v := .ty "tuple") (by rfl) T.z_tuple (by decide +kernel) rfl) pa_nil))) (pe_one (e_chain (op_ord (.inr (.inr (.inl rfl))) hr.units) (RDs.do rd_ord) (op_ord (.inr (.inr (.inl rfl))) hr.units) (RDs.do rd_ord) (e_var (pv 1)) (e_len (pe_callB call_lenA (by rfl) T.z_len PySem.boot_len (a_cons (e_var (pv 0)) a_nil))) (e_var (pv 2))))))))
  exact h
end
def b_is_text : FS :=
    (sSeq (sIf (tOrF (tNotF (bT (fIsi isStr (fVar 0)))) (bT (fOp2 (seeB (ordD .Gt)) (lenS (faCons (fVar 0) faNil)) (fVar 1))))
    (sRet (fC (.bool false)))
    sNx)
    (sSeq (sFor (itTake (fVar 0)) (tgN 2) [2]
    (sIf (tOrF (bT (fOp2 (seeB (ordD .Lt)) (fVar 2) (fC (.str "a")))) (bT (fOp2 (seeB (ordD .Gt)) (fVar 2) (fC (.str "z")))))
    (sRet (fC (.bool false)))
    sNx))
    (sRet (fC (.bool true)))))
def F_is_text : FF := runF 3 2 b_is_text
section
variable {P : Program} {w : World} {K : PySem.W.Frag} {mg : Str → Option Value} {base : Heap}
theorem ok_is_text (T : Tx K mg w) : FnOk P w K mg base CX0 1 T.f_is_text T.d_is_text ["value", "longest"] (spF ⟨K, P, w⟩ 2 F_is_text) := by
  have h : FnOk P w K mg base CX0 1 T.f_is_text T.d_is_text ["value", "longest"] (spF ⟨K, P, w⟩ [("value" : Str), ("longest" : Str)].length (runF [("value" : Str), ("longest" : Str), ("letter" : Str)].length [("value" : Str), ("longest" : Str)].length b_is_text)) := fn_pi (body := b_is_text) T.F_is_text sc_is_text fun cdv A outer s H E hr =>
    (b_cons (s_ite (PW.pt (w_or (t_not (t_val (e_isi (T := "str") (kit_str _) (by rfl) T.z_isinstance (pa_cons (e_var (pv 0)) (pa_cons (pe_bltn (v := .ty "str") (by rfl) T.z_str (by decide +kernel) rfl) pa_nil))))) (pw_or1 (t_cmp (op_ord (.inr (.inl rfl)) hr.units) (RDs.do rd_ord) (e_len (pe_callB call_lenA (by rfl) T.z_len PySem.boot_len (a_cons (e_var (pv 0)) a_nil))) (e_var (pv 1)) (nomark _)))))
    (b_one (s_retE (ps_ret e_bl)))
    b_nil)
    (b_cons (s_for (wp := [2]) (gd_name (i := 2)) (ps_for PassesOwn.never rfl (i_for (e_var (pv 0))) (pg_name (i := 2) sc_is_text.nd rfl (Or.inl rfl))
    (b_one (s_ite (PW.pt (w_or (t_cmp (op_ord (.inl rfl) hr.units) (RDs.do rd_ord) (e_var (pv 2)) e_str (nomark _)) (pw_or1 (t_cmp (op_ord (.inr (.inl rfl)) hr.units) (RDs.do rd_ord) (e_var (pv 2)) e_str (nomark _)))))
    (b_one (s_retE (ps_ret e_bl)))
    b_nil))))
    (b_one (s_retE (ps_ret e_bl)))))
  exact h
end
def b_is_ascending : FS :=
    (sSeq (sFor (itRng2 (faCons (fC (.int 1)) (faCons (lenS (faCons (fVar 0) faNil)) faNil))) (tgN 1) [1]
    (sIf (bT (fOp2 (seeB (ordD .GtE)) (fOp2 (seeB ixD) (fVar 0) (fOp2 (seeB subD) (fVar 1) (fC (.int 1)))) (fOp2 (seeB ixD) (fVar 0) (fVar 1))))
    (sRet (fC (.bool false)))
    sNx))
    (sRet (fC (.bool true))))
def F_is_ascending : FF := runF 2 1 b_is_ascending
section
variable {P : Program} {w : World} {K : PySem.W.Frag} {mg : Str → Option Value} {base : Heap}
theorem ok_is_ascending (T : Tx K mg w) : FnOk P w K mg base CX0 1 T.f_is_ascending T.d_is_ascending ["values"] (spF ⟨K, P, w⟩ 1 F_is_ascending) := by
  have h : FnOk P w K mg base CX0 1 T.f_is_ascending T.d_is_ascending ["values"] (spF ⟨K, P, w⟩ [("values" : Str)].length (runF [("values" : Str), ("at" : Str)].length [("values" : Str)].length b_is_ascending)) := fn_pi (body := b_is_ascending) T.F_is_ascending sc_is_ascending fun cdv A outer s H E hr =>
    (b_cons (s_for (wp := [1]) (gd_name (i := 1)) (ps_for PassesOwn.never rfl (i_rng2 (pi_range2 (by rfl) T.z_range (a_cons e_int (a_cons (e_len (pe_callB call_lenA (by rfl) T.z_len PySem.boot_len (a_cons (e_var (pv 0)) a_nil))) a_nil)))) (pg_name (i := 1) sc_is_ascending.nd rfl (Or.inl rfl))
    (b_one (s_ite (t_cmp (op_ord (.inr (.inr (.inr rfl))) hr.units) (RDs.do rd_ord) (e_ix ix_seq (RDs.do rd_ixD) (e_var (pv 0)) (e_op op_sub (RDs.do rd_subD) (e_var (pv 1)) e_int) (fun _ _ => rfl)) (e_ix ix_seq (RDs.do rd_ixD) (e_var (pv 0)) (e_var (pv 1)) (fun _ _ => rfl)) (nomark _))
    (b_one (s_retE (ps_ret e_bl)))
    b_nil))))
    (b_one (s_retE (ps_ret e_bl))))
  exact h
end
def b_written_thing : FS :=
    (sRet (fMt "str" joinG (fC (.str "|")) (faCons (fLc (itSee (fVar 0)) (tgN 1) [1] tT (fIf (bT (fOp2 (seeB (eqD false)) (fVar 1) (fC (.str "")))) (fC (.str "-")) (fVar 1))) faNil)))
def F_written_thing : FF := runF 2 1 b_written_thing
section
variable {P : Program} {w : World} {K : PySem.W.Frag} {mg : Str → Option Value} {base : Heap}
theorem ok_written_thing (T : Tx K mg w) : FnOk P w K mg base CX0 1 T.f_written_thing T.d_written_thing ["thing"] (spF ⟨K, P, w⟩ 1 F_written_thing) := by
  have h : FnOk P w K mg base CX0 1 T.f_written_thing T.d_written_thing ["thing"] (spF ⟨K, P, w⟩ [("thing" : Str)].length (runF [("thing" : Str), ("text" : Str)].length [("thing" : Str)].length b_written_thing)) := fn_pi (body := b_written_thing) T.F_written_thing sc_written_thing fun cdv A outer s H E hr =>
    (b_one (s_retE (ps_ret (e_mt md_join (pe_bm PySem.F.plainAttrs_str PySem.F.slot_str_join PySem.F.type_str_join mt_join (e_cst (pe_glob (v := .str "|") (by rfl) T.g_CHOICES ⟨_, rfl⟩) (fun _ => .str _)) (a_cons (e_lc (gd_name (i := 1)) (by decide) (pe_lc (own := [("text", 1)]) rfl sc_written_thing.nd (i_lc (e_var (pv 0))) (blkOk_by (own := [("text", 1)]) (N := ["thing", "text"]) (sc := defScope s_written_thing) (by decide +kernel)) (fun _ _ _ _ _ => (pg_name (i := 1) sc_written_thing.nd rfl (Or.inl rfl))) (fun _ _ _ _ _ => pts_yes) (fun _ _ _ _ _ => (e_if (t_cmp (op_eqA hr.units) (RDs.do rd_eqD') (e_var (pv 1)) e_str (nomark _)) (e_cst (pe_glob (v := .str "-") (by rfl) T.g_EMPTY ⟨_, rfl⟩) (fun _ => .str _)) (e_var (pv 1)))))) a_nil))))))
  exact h
end
def b_written_step : FS :=
    (sSeq (sAsgT (tgT [(tgN 1), (tgN 2)]) (fVar 0))
    (sRet (fMt "str" joinG (fC (.str " ")) (faCons (fOp2 addL (fLst (faCons (fVar 1) faNil)) (fLc (itSee (fVar 2)) (tgT [(tgN 3), (tgN 4)]) [3, 4] tT (fOp2 addL (fIxS mSIGNS (fVar 3)) (fBi (see1 strIG) (faCons (fVar 4) faNil))))) faNil))))
def F_written_step : FF := runF 5 1 b_written_step
section
variable {P : Program} {w : World} {K : PySem.W.Frag} {mg : Str → Option Value} {base : Heap}
theorem ok_written_step (T : Tx K mg w) : FnOk P w K mg base CX0 1 T.f_written_step T.d_written_step ["step"] (spF ⟨K, P, w⟩ 1 F_written_step) := by
  have h : FnOk P w K mg base CX0 1 T.f_written_step T.d_written_step ["step"] (spF ⟨K, P, w⟩ [("step" : Str)].length (runF [("step" : Str), ("operation" : Str), ("reads" : Str), ("word" : Str), ("number" : Str)].length [("step" : Str)].length b_written_step)) := fn_pi (body := b_written_step) T.F_written_step sc_written_step fun cdv A outer s H E hr =>
    (b_cons (s_setT (gd_tup (gds_cons (gd_name (i := 1)) (gds_cons (gd_name (i := 2)) gds_nil)) rfl) (ps_asg (e_var (pv 0)) (pg_tup rfl (pgs_cons (pg_name (i := 1) sc_written_step.nd rfl (Or.inl rfl)) (pgs_cons (pg_name (i := 2) sc_written_step.nd rfl (Or.inl rfl)) pgs_nil)))))
    (b_one (s_retE (ps_ret (e_mt md_join (pe_bm PySem.F.plainAttrs_str PySem.F.slot_str_join PySem.F.type_str_join mt_join (e_cst (pe_glob (v := .str " ") (by rfl) T.g_WORDS ⟨_, rfl⟩) (fun _ => .str _)) (a_cons (e_op op_addA rd_add2 (e_lst (a_cons (e_var (pv 1)) a_nil)) (e_lc (gd_tup (gds_cons (gd_name (i := 3)) (gds_cons (gd_name (i := 4)) gds_nil)) rfl) (by decide) (pe_lc (own := [("word", 3), ("number", 4)]) rfl sc_written_step.nd (i_lc (e_var (pv 2))) (blkOk_by (own := [("word", 3), ("number", 4)]) (N := ["step", "operation", "reads", "word", "number"]) (sc := defScope s_written_step) (by decide +kernel)) (fun _ _ _ _ _ => (pg_tup rfl (pgs_cons (pg_name (i := 3) sc_written_step.nd rfl (Or.inl rfl)) (pgs_cons (pg_name (i := 4) sc_written_step.nd rfl (Or.inl rfl)) pgs_nil)))) (fun _ _ _ _ _ => pts_yes) (fun _ _ _ _ _ => (e_op op_addA rd_add2 (e_ixS T.m_SIGNS (pe_ix ix_ds (pe_glob (v := .ref T.a_SIGNS) (by rfl) T.g_SIGNS rfl) (e_var (pv 3)) (fun _ _ => rfl))) (e_ty call_str_int cd_strI (by rfl) T.z_str (by decide +kernel) (a_cons (e_var (pv 4)) a_nil))))))) a_nil)))))))
  exact h
end
def b_read_thing : FS :=
    (sRet (fBi (see1 tupG) (faCons (fLc (itSee (fMt "str" splitG (fVar 0) (faCons (fC (.str "|")) faNil))) (tgN 1) [1] tT (fIf (bT (fOp2 (seeB (eqD false)) (fVar 1) (fC (.str "-")))) (fC (.str "")) (fVar 1))) faNil)))
def F_read_thing : FF := runF 2 1 b_read_thing
section
variable {P : Program} {w : World} {K : PySem.W.Frag} {mg : Str → Option Value} {base : Heap}
theorem ok_read_thing (T : Tx K mg w) : FnOk P w K mg base CX0 1 T.f_read_thing T.d_read_thing ["text"] (spF ⟨K, P, w⟩ 1 F_read_thing) := by
  have h : FnOk P w K mg base CX0 1 T.f_read_thing T.d_read_thing ["text"] (spF ⟨K, P, w⟩ [("text" : Str)].length (runF [("text" : Str), ("word" : Str)].length [("text" : Str)].length b_read_thing)) := fn_pi (body := b_read_thing) T.F_read_thing sc_read_thing fun cdv A outer s H E hr =>
    (b_one (s_retE (ps_ret (e_ty call_tuple_of cd_tup (by rfl) T.z_tuple (by decide +kernel) (a_cons (e_lc (gd_name (i := 1)) (by decide) (pe_lc (own := [("word", 1)]) rfl sc_read_thing.nd (i_lc (e_mt md_split (pe_bm PySem.F.plainAttrs_str PySem.F.slot_str_split PySem.F.type_str_split mt_split (e_var (pv 0)) (a_cons (e_cst (pe_glob (v := .str "|") (by rfl) T.g_CHOICES ⟨_, rfl⟩) (fun _ => .str _)) a_nil)))) (blkOk_by (own := [("word", 1)]) (N := ["text", "word"]) (sc := defScope s_read_thing) (by decide +kernel)) (fun _ _ _ _ _ => (pg_name (i := 1) sc_read_thing.nd rfl (Or.inl rfl))) (fun _ _ _ _ _ => pts_yes) (fun _ _ _ _ _ => (e_if (t_cmp (op_eqA hr.units) (RDs.do rd_eqD') (e_var (pv 1)) (e_cst (pe_glob (v := .str "-") (by rfl) T.g_EMPTY ⟨_, rfl⟩) (fun _ => .str _)) (nomark _)) e_str (e_var (pv 1)))))) a_nil)))))
  exact h
end
def bx_read_number : FX :=
    (xSeq (xIf (tOrF (bT (fOp2 (seeB (eqD true)) (lenS (faCons (fVar 0) faNil)) (fC (.int 1)))) (bT (fOp2 (seeB (inSD true)) (fVar 0) (fC (.str "0123456789")))))
    (xRaise "ParseError")
    (xFl sNx))
    (xFl (sRet (fBi (see1 intSG) (faCons (fVar 0) faNil)))))
def X_read_number : FFX := runFX 1 1 bx_read_number
section
variable {P : Program} {w : World} {K : PySem.W.Frag} {mg : Str → Option Value} {base : Heap}
theorem okX_read_number (T : Tx K mg w) : FnOk P w K mg base (L2N.CX P w) 1 T.f_read_number T.d_read_number ["text"] (spX ⟨K, P, w⟩ mg 1 X_read_number) := by
  have h : FnOk P w K mg base (L2N.CX P w) 1 T.f_read_number T.d_read_number ["text"] (spX ⟨K, P, w⟩ mg [("text" : Str)].length (runFX [("text" : Str)].length [("text" : Str)].length bx_read_number)) := fn_piX (body := bx_read_number) T.F_read_number sc_read_number fun cdv A outer s H E hr W tk =>
    (x_cons (x_ite (PW.pt (w_or (t_cmp (op_neA hr.units) (RDs.do rd_neD') (e_len (pe_callB call_lenA (by rfl) T.z_len PySem.boot_len (a_cons (e_var (pv 0)) a_nil))) e_int (nomark _)) (pw_or1 (t_cmp op_notin_str (RDs.do rd_notInS) (e_var (pv 0)) (e_cst (pe_glob (v := .str "0123456789") (by rfl) T.g_DIGITS ⟨_, rfl⟩) (fun _ => .str _)) (by rfl)))))
    (x_one (s_raise T.g_ParseError (ps_raiseN rfl tk (pmk_ownN PySem.F.excBase_ValueError T.E_ParseError.xC T.g_ParseError T.E_ParseError.kC (raises_own T.E_ParseError.bC T.E_ParseError.tC) (by exact rfl)))))
    x_nil)
    (b_xFl (b_one (s_retE (ps_ret (e_ty call_int_str cd_intS (by rfl) T.z_int (by decide +kernel) (a_cons (e_var (pv 0)) a_nil)))))))
  exact h
end
def b_cell_at : FS :=
    (sSeq (sIf (bT (fOp2 (seeB (ordD .Lt)) (fVar 1) (lenS (faCons (fVar 0) faNil))))
    (sRet (fOp2 (seeB ixD) (fVar 0) (fVar 1)))
    sNx)
    (sSeq (sIf (bT (fOp2 (seeB (eqD false)) (fVar 0) (fLst faNil)))
    (sRet (fC (.int 0)))
    sNx)
    (sSeq (sAsg 2 (fOp2 (seeB ixD) (fVar 0) (fOp2 (seeB modD) (fVar 1) (lenS (faCons (fVar 0) faNil)))))
    (sSeq (sFor (itRng1 (faCons (fBi minAG (faCons (fOp2 (seeB fdivD) (fVar 1) (lenS (faCons (fVar 0) faNil))) (faCons (fC (.int 60)) faNil))) faNil)) (tgN 3) [3]
    (sAsg 2 (fOp2 (seeB fdivD) (fVar 2) (fC (.int 1000003)))))
    (sFrz [2] (sRet (fOp2 addL (fOp2 addL (fOp2 (seeB mulD) (fOp2 (seeB ixD) (fVar 0) (fOp2 (seeB modD) (fVar 1) (lenS (faCons (fVar 0) faNil)))) (fC (.int 31))) (fVar 1)) (fOp2 (seeB mulD) (fVar 2) (fC (.int 101))))))))))
def F_cell_at : FF := runF 4 2 b_cell_at
section
variable {P : Program} {w : World} {K : PySem.W.Frag} {mg : Str → Option Value} {base : Heap}
theorem ok_cell_at (T : Tx K mg w) : FnOk P w K mg base CX0 1 T.f__law_cell_at T.d__law_cell_at ["_law_script", "_law_k"] (spF ⟨K, P, w⟩ 2 F_cell_at) := by
  have h : FnOk P w K mg base CX0 1 T.f__law_cell_at T.d__law_cell_at ["_law_script", "_law_k"] (spF ⟨K, P, w⟩ [("_law_script" : Str), ("_law_k" : Str)].length (runF [("_law_script" : Str), ("_law_k" : Str), ("_law_spare" : Str), ("_law_again" : Str)].length [("_law_script" : Str), ("_law_k" : Str)].length b_cell_at)) := fn_pi (body := b_cell_at) T.F__law_cell_at sc_cell_at fun cdv A outer s H E hr =>
    (b_cons (s_ite (t_cmp (op_ord (.inl rfl) hr.units) (RDs.do rd_ord) (e_var (pv 1)) (e_len (pe_callB call_lenA (by rfl) T.z_len PySem.boot_len (a_cons (e_var (pv 0)) a_nil))) (nomark _))
    (b_one (s_retE (ps_ret (e_ix ix_seq (RDs.do rd_ixD) (e_var (pv 0)) (e_var (pv 1)) (fun _ _ => rfl)))))
    b_nil)
    (b_cons (s_ite (t_cmp (op_eqA hr.units) (RDs.do rd_eqD') (e_var (pv 0)) (e_lst a_nil) (nomark _))
    (b_one (s_retE (ps_ret e_int)))
    b_nil)
    (b_cons (s_set (ps_set (i := 2) sc_cell_at.nd rfl (Or.inl rfl) (e_ix ix_seq (RDs.do rd_ixD) (e_var (pv 0)) (e_op op_modN (RDs.do rd_modD) (e_var (pv 1)) (e_len (pe_callB call_lenA (by rfl) T.z_len PySem.boot_len (a_cons (e_var (pv 0)) a_nil)))) (fun _ _ => rfl))))
    (b_cons (s_for (wp := [3]) (gd_name (i := 3)) (ps_for PassesOwn.never rfl (i_rng1 (pi_range1 (by rfl) T.z_range (a_cons (e_bi (call_minA rfl) cd_minA (by rfl) T.z_min PyProof.Rows.boot_min (a_cons (e_op op_fdivN (RDs.do rd_fdivD) (e_var (pv 1)) (e_len (pe_callB call_lenA (by rfl) T.z_len PySem.boot_len (a_cons (e_var (pv 0)) a_nil)))) (a_cons e_int a_nil))) a_nil))) (pg_name (i := 3) sc_cell_at.nd rfl (Or.inl rfl))
    (b_one (s_set (ps_set (i := 2) sc_cell_at.nd rfl (Or.inl rfl) (e_op op_fdivN (RDs.do rd_fdivD) (e_var (pv 2)) e_int))))))
    (b_one (s_frz (is := [2]) (s_retE (ps_ret (e_op op_addA rd_add2 (e_op op_addA rd_add2 (e_op op_mulA (RDs.do rd_mulD) (e_ix ix_seq (RDs.do rd_ixD) (e_var (pv 0)) (e_op op_modN (RDs.do rd_modD) (e_var (pv 1)) (e_len (pe_callB call_lenA (by rfl) T.z_len PySem.boot_len (a_cons (e_var (pv 0)) a_nil)))) (fun _ _ => rfl)) e_int) (e_var (pv 1))) (e_op op_mulA (RDs.do rd_mulD) (e_var (pv 2)) e_int))))))))))
  exact h
end
def b_is_thing : FS :=
    (sSeq (sIf (tNotF (bT (fCall 3 F_is_tuple (faCons (fVar 0) (faCons (fC (.int 1)) (faCons (fC (.int 4)) faNil))))))
    (sRet (fC (.bool false)))
    sNx)
    (sSeq (sFor (itTake (fVar 0)) (tgN 1) [1]
    (sIf (tNotF (bT (fCall 2 F_is_text (faCons (fVar 1) (faCons (fC (.int 4)) faNil)))))
    (sRet (fC (.bool false)))
    sNx))
    (sRet (fCall 1 F_is_ascending (faCons (fVar 0) faNil)))))
def F_is_thing : FF := runF 2 1 b_is_thing
section
variable {P : Program} {w : World} {K : PySem.W.Frag} {mg : Str → Option Value} {base : Heap}
theorem ok_is_thing (T : Tx K mg w) : FnOk P w K mg base CX0 2 T.f_is_thing T.d_is_thing ["value"] (spF ⟨K, P, w⟩ 1 F_is_thing) := by
  have G_is_tuple := ok_is_tuple (P := P) (base := base) T
  have G_is_text := ok_is_text (P := P) (base := base) T
  have G_is_ascending := ok_is_ascending (P := P) (base := base) T
  have h : FnOk P w K mg base CX0 2 T.f_is_thing T.d_is_thing ["value"] (spF ⟨K, P, w⟩ [("value" : Str)].length (runF [("value" : Str), ("text" : Str)].length [("value" : Str)].length b_is_thing)) := fn_pi (body := b_is_thing) T.F_is_thing sc_is_thing fun cdv A outer s H E hr =>
    (b_cons (s_ite (t_not (t_val (e_call G_is_tuple hr (by rfl) T.g_is_tuple T.F_is_tuple.kp T.b_is_tuple (a_cons (e_var (pv 0)) (a_cons e_int (a_cons (e_cst (pe_glob (v := .int 4) (by rfl) T.g_MOST_TEXTS ⟨_, rfl⟩) (fun _ => .int _)) a_nil))))))
    (b_one (s_retE (ps_ret e_bl)))
    b_nil)
    (b_cons (s_for (wp := [1]) (gd_name (i := 1)) (ps_for PassesOwn.never rfl (i_for (e_var (pv 0))) (pg_name (i := 1) sc_is_thing.nd rfl (Or.inl rfl))
    (b_one (s_ite (t_not (t_val (e_call G_is_text hr (by rfl) T.g_is_text T.F_is_text.kp T.b_is_text (a_cons (e_var (pv 1)) (a_cons (e_cst (pe_glob (v := .int 4) (by rfl) T.g_LONGEST_TEXT ⟨_, rfl⟩) (fun _ => .int _)) a_nil)))))
    (b_one (s_retE (ps_ret e_bl)))
    b_nil))))
    (b_one (s_retE (ps_ret (e_call G_is_ascending hr (by rfl) T.g_is_ascending T.F_is_ascending.kp T.b_is_ascending (a_cons (e_var (pv 0)) a_nil)))))))
  exact h
end
def b_is_reading : FS :=
    (sSeq (sIf (tNotF (bT (fCall 3 F_is_tuple (faCons (fVar 0) (faCons (fC (.int 2)) (faCons (fC (.int 2)) faNil))))))
    (sRet (fC (.bool false)))
    sNx)
    (sSeq (sAsgT (tgT [(tgN 3), (tgN 4)]) (fVar 0))
    (sSeq (sIf (tNotF (bT (fIsi isStr (fVar 3))))
    (sRet (fC (.bool false)))
    sNx)
    (sSeq (sIf (bT (fOp2 (seeB (eqD false)) (fVar 3) (fC (.str "thing"))))
    (sRet (fCall 3 F_is_number (faCons (fVar 4) (faCons (fC (.int 0)) (faCons (fOp2 (seeB subD) (fVar 1) (fC (.int 1))) faNil)))))
    sNx)
    (sRet (fAnd (fOp2 (seeB (eqD false)) (fVar 3) (fC (.str "step"))) (fCall 3 F_is_number (faCons (fVar 4) (faCons (fC (.int 0)) (faCons (fOp2 (seeB subD) (fVar 2) (fC (.int 1))) faNil))))))))))
def F_is_reading : FF := runF 5 3 b_is_reading
section
variable {P : Program} {w : World} {K : PySem.W.Frag} {mg : Str → Option Value} {base : Heap}
theorem ok_is_reading (T : Tx K mg w) : FnOk P w K mg base CX0 2 T.f_is_reading T.d_is_reading ["value", "many_things", "step"] (spF ⟨K, P, w⟩ 3 F_is_reading) := by
  have G_is_tuple := ok_is_tuple (P := P) (base := base) T
  have G_is_number := ok_is_number (P := P) (base := base) T
  have h : FnOk P w K mg base CX0 2 T.f_is_reading T.d_is_reading ["value", "many_things", "step"] (spF ⟨K, P, w⟩ [("value" : Str), ("many_things" : Str), ("step" : Str)].length (runF [("value" : Str), ("many_things" : Str), ("step" : Str), ("word" : Str), ("number" : Str)].length [("value" : Str), ("many_things" : Str), ("step" : Str)].length b_is_reading)) := fn_pi (body := b_is_reading) T.F_is_reading sc_is_reading fun cdv A outer s H E hr =>
    (b_cons (s_ite (t_not (t_val (e_call G_is_tuple hr (by rfl) T.g_is_tuple T.F_is_tuple.kp T.b_is_tuple (a_cons (e_var (pv 0)) (a_cons e_int (a_cons e_int a_nil))))))
    (b_one (s_retE (ps_ret e_bl)))
    b_nil)
    (b_cons (s_setT (gd_tup (gds_cons (gd_name (i := 3)) (gds_cons (gd_name (i := 4)) gds_nil)) rfl) (ps_asg (e_var (pv 0)) (pg_tup rfl (pgs_cons (pg_name (i := 3) sc_is_reading.nd rfl (Or.inl rfl)) (pgs_cons (pg_name (i := 4) sc_is_reading.nd rfl (Or.inl rfl)) pgs_nil)))))
    (b_cons (s_ite (t_not (t_val (e_isi (T := "str") (kit_str _) (by rfl) T.z_isinstance (pa_cons (e_var (pv 3)) (pa_cons (pe_bltn (v := .ty "str") (by rfl) T.z_str (by decide +kernel) rfl) pa_nil)))))
    (b_one (s_retE (ps_ret e_bl)))
    b_nil)
    (b_cons (s_ite (t_cmp (op_eqA hr.units) (RDs.do rd_eqD') (e_var (pv 3)) e_str (nomark _))
    (b_one (s_retE (ps_ret (e_call G_is_number hr (by rfl) T.g_is_number T.F_is_number.kp T.b_is_number (a_cons (e_var (pv 4)) (a_cons e_int (a_cons (e_op op_sub (RDs.do rd_subD) (e_var (pv 1)) e_int) a_nil)))))))
    b_nil)
    (b_one (s_retE (ps_ret (e_and (e_cmp (op_eqA hr.units) (RDs.do rd_eqD') (e_var (pv 3)) e_str (nomark _)) (pe_one (e_call G_is_number hr (by rfl) T.g_is_number T.F_is_number.kp T.b_is_number (a_cons (e_var (pv 4)) (a_cons e_int (a_cons (e_op op_sub (RDs.do rd_subD) (e_var (pv 2)) e_int) a_nil)))))))))))))
  exact h
end
def b_is_made : FS :=
    (sSeq (sIf (tNotF (bT (fCall 3 F_is_tuple (faCons (fVar 0) (faCons (fC (.int 1)) (faCons (fC (.int 3)) faNil))))))
    (sRet (fC (.bool false)))
    sNx)
    (sSeq (sFor (itTake (fVar 0)) (tgN 2) [2]
    (sIf (tNotF (bT (fCall 3 F_is_number (faCons (fVar 2) (faCons (fC (.int 0)) (faCons (fOp2 (seeB subD) (fVar 1) (fC (.int 1))) faNil))))))
    (sRet (fC (.bool false)))
    sNx))
    (sRet (fCall 1 F_is_ascending (faCons (fVar 0) faNil)))))
def F_is_made : FF := runF 3 2 b_is_made
section
variable {P : Program} {w : World} {K : PySem.W.Frag} {mg : Str → Option Value} {base : Heap}
theorem ok_is_made (T : Tx K mg w) : FnOk P w K mg base CX0 2 T.f_is_made T.d_is_made ["value", "many_steps"] (spF ⟨K, P, w⟩ 2 F_is_made) := by
  have G_is_tuple := ok_is_tuple (P := P) (base := base) T
  have G_is_number := ok_is_number (P := P) (base := base) T
  have G_is_ascending := ok_is_ascending (P := P) (base := base) T
  have h : FnOk P w K mg base CX0 2 T.f_is_made T.d_is_made ["value", "many_steps"] (spF ⟨K, P, w⟩ [("value" : Str), ("many_steps" : Str)].length (runF [("value" : Str), ("many_steps" : Str), ("number" : Str)].length [("value" : Str), ("many_steps" : Str)].length b_is_made)) := fn_pi (body := b_is_made) T.F_is_made sc_is_made fun cdv A outer s H E hr =>
    (b_cons (s_ite (t_not (t_val (e_call G_is_tuple hr (by rfl) T.g_is_tuple T.F_is_tuple.kp T.b_is_tuple (a_cons (e_var (pv 0)) (a_cons e_int (a_cons (e_cst (pe_glob (v := .int 3) (by rfl) T.g_MOST_MADE ⟨_, rfl⟩) (fun _ => .int _)) a_nil))))))
    (b_one (s_retE (ps_ret e_bl)))
    b_nil)
    (b_cons (s_for (wp := [2]) (gd_name (i := 2)) (ps_for PassesOwn.never rfl (i_for (e_var (pv 0))) (pg_name (i := 2) sc_is_made.nd rfl (Or.inl rfl))
    (b_one (s_ite (t_not (t_val (e_call G_is_number hr (by rfl) T.g_is_number T.F_is_number.kp T.b_is_number (a_cons (e_var (pv 2)) (a_cons e_int (a_cons (e_op op_sub (RDs.do rd_subD) (e_var (pv 1)) e_int) a_nil))))))
    (b_one (s_retE (ps_ret e_bl)))
    b_nil))))
    (b_one (s_retE (ps_ret (e_call G_is_ascending hr (by rfl) T.g_is_ascending T.F_is_ascending.kp T.b_is_ascending (a_cons (e_var (pv 0)) a_nil)))))))
  exact h
end
def b_written : FS :=
    (sSeq (sAsgT (tgT [(tgN 1), (tgN 2), (tgN 3)]) (fVar 0))
    (sRet (fMt "str" joinG (fC (.str "; ")) (faCons (fLst (faCons (fMt "str" joinG (fC (.str ", ")) (faCons (fLc (itSee (fVar 1)) (tgN 4) [4] tT (fCall 1 F_written_thing (faCons (fVar 4) faNil))) faNil)) (faCons (fMt "str" joinG (fC (.str ", ")) (faCons (fLc (itSee (fVar 2)) (tgN 5) [5] tT (fCall 1 F_written_step (faCons (fVar 5) faNil))) faNil)) (faCons (fMt "str" joinG (fC (.str ", ")) (faCons (fLc (itSee (fVar 3)) (tgN 6) [6] tT (fBi (see1 strIG) (faCons (fVar 6) faNil))) faNil)) faNil)))) faNil))))
def F_written : FF := runF 7 1 b_written
section
variable {P : Program} {w : World} {K : PySem.W.Frag} {mg : Str → Option Value} {base : Heap}
theorem ok_written (T : Tx K mg w) : FnOk P w K mg base CX0 2 T.f_written T.d_written ["recipe"] (spF ⟨K, P, w⟩ 1 F_written) := by
  have G_written_step := ok_written_step (P := P) (base := base) T
  have G_written_thing := ok_written_thing (P := P) (base := base) T
  have h : FnOk P w K mg base CX0 2 T.f_written T.d_written ["recipe"] (spF ⟨K, P, w⟩ [("recipe" : Str)].length (runF [("recipe" : Str), ("things" : Str), ("steps" : Str), ("made" : Str), ("thing" : Str), ("step" : Str), ("number" : Str)].length [("recipe" : Str)].length b_written)) := fn_pi (body := b_written) T.F_written sc_written fun cdv A outer s H E hr =>
    (b_cons (s_setT (gd_tup (gds_cons (gd_name (i := 1)) (gds_cons (gd_name (i := 2)) (gds_cons (gd_name (i := 3)) gds_nil))) rfl) (ps_asg (e_var (pv 0)) (pg_tup rfl (pgs_cons (pg_name (i := 1) sc_written.nd rfl (Or.inl rfl)) (pgs_cons (pg_name (i := 2) sc_written.nd rfl (Or.inl rfl)) (pgs_cons (pg_name (i := 3) sc_written.nd rfl (Or.inl rfl)) pgs_nil))))))
    (b_one (s_retE (ps_ret (e_mt md_join (pe_bm PySem.F.plainAttrs_str PySem.F.slot_str_join PySem.F.type_str_join mt_join (e_cst (pe_glob (v := .str "; ") (by rfl) T.g_PARTS ⟨_, rfl⟩) (fun _ => .str _)) (a_cons (e_lst (a_cons (e_mt md_join (pe_bm PySem.F.plainAttrs_str PySem.F.slot_str_join PySem.F.type_str_join mt_join (e_cst (pe_glob (v := .str ", ") (by rfl) T.g_ITEMS ⟨_, rfl⟩) (fun _ => .str _)) (a_cons (e_lc (gd_name (i := 4)) (by decide) (pe_lc (own := [("thing", 4)]) rfl sc_written.nd (i_lc (e_var (pv 1))) (blkOk_by (own := [("thing", 4)]) (N := ["recipe", "things", "steps", "made", "thing", "step", "number"]) (sc := defScope s_written) (by decide +kernel)) (fun _ _ _ _ _ => (pg_name (i := 4) sc_written.nd rfl (Or.inl rfl))) (fun _ _ _ _ _ => pts_yes) (fun _ _ _ _ _ => (e_call G_written_thing hr (by rfl) T.g_written_thing T.F_written_thing.kp T.b_written_thing (a_cons (e_var (pv 4)) a_nil))))) a_nil))) (a_cons (e_mt md_join (pe_bm PySem.F.plainAttrs_str PySem.F.slot_str_join PySem.F.type_str_join mt_join (e_cst (pe_glob (v := .str ", ") (by rfl) T.g_ITEMS ⟨_, rfl⟩) (fun _ => .str _)) (a_cons (e_lc (gd_name (i := 5)) (by decide) (pe_lc (own := [("step", 5)]) rfl sc_written.nd (i_lc (e_var (pv 2))) (blkOk_by (own := [("step", 5)]) (N := ["recipe", "things", "steps", "made", "thing", "step", "number"]) (sc := defScope s_written) (by decide +kernel)) (fun _ _ _ _ _ => (pg_name (i := 5) sc_written.nd rfl (Or.inl rfl))) (fun _ _ _ _ _ => pts_yes) (fun _ _ _ _ _ => (e_call G_written_step hr (by rfl) T.g_written_step T.F_written_step.kp T.b_written_step (a_cons (e_var (pv 5)) a_nil))))) a_nil))) (a_cons (e_mt md_join (pe_bm PySem.F.plainAttrs_str PySem.F.slot_str_join PySem.F.type_str_join mt_join (e_cst (pe_glob (v := .str ", ") (by rfl) T.g_ITEMS ⟨_, rfl⟩) (fun _ => .str _)) (a_cons (e_lc (gd_name (i := 6)) (by decide) (pe_lc (own := [("number", 6)]) rfl sc_written.nd (i_lc (e_var (pv 3))) (blkOk_by (own := [("number", 6)]) (N := ["recipe", "things", "steps", "made", "thing", "step", "number"]) (sc := defScope s_written) (by decide +kernel)) (fun _ _ _ _ _ => (pg_name (i := 6) sc_written.nd rfl (Or.inl rfl))) (fun _ _ _ _ _ => pts_yes) (fun _ _ _ _ _ => (e_ty call_str_int cd_strI (by rfl) T.z_str (by decide +kernel) (a_cons (e_var (pv 6)) a_nil))))) a_nil))) a_nil)))) a_nil)))))))
  exact h
end
def bx_read_reading : FX :=
    (xSeq (xIf (bT (fInS mKINDS (fSl (fVar 0) oNone (oSome (fC (.int 1))))))
    (xRaise "ParseError")
    (xFl sNx))
    (xRet (fTupX (axCons (xV (fIxS mKINDS (fSl (fVar 0) oNone (oSome (fC (.int 1)))))) (axCons (fCallX 1 X_read_number (faCons (fSl (fVar 0) (oSome (fC (.int 1))) oNone) faNil)) (axV faNil))))))
def X_read_reading : FFX := runFX 1 1 bx_read_reading
section
variable {P : Program} {w : World} {K : PySem.W.Frag} {mg : Str → Option Value} {base : Heap}
theorem okX_read_reading (T : Tx K mg w) : FnOk P w K mg base (L2N.CX P w) 2 T.f_read_reading T.d_read_reading ["text"] (spX ⟨K, P, w⟩ mg 1 X_read_reading) := by
  have GX_read_number := okX_read_number (P := P) (base := base) T
  have h : FnOk P w K mg base (L2N.CX P w) 2 T.f_read_reading T.d_read_reading ["text"] (spX ⟨K, P, w⟩ mg [("text" : Str)].length (runFX [("text" : Str)].length [("text" : Str)].length bx_read_reading)) := fn_piX (body := bx_read_reading) T.F_read_reading sc_read_reading fun cdv A outer s H E hr W tk =>
    (x_cons (x_ite (t_notInS T.m_KINDS (pt_cmpR op_notInDs (e_sl (e_var (pv 0)) o_none (o_some e_int)) (pe_glob (v := .ref T.a_KINDS) (by rfl) T.g_KINDS rfl) (by rfl)))
    (x_one (s_raise T.g_ParseError (ps_raiseN rfl tk (pmk_ownN PySem.F.excBase_ValueError T.E_ParseError.xC T.g_ParseError T.E_ParseError.kC (raises_own T.E_ParseError.bC T.E_ParseError.tC) (by exact rfl)))))
    x_nil)
    (x_one (s_retX (ps_ret (e_tupX (ax_cons (e_xV (e_ixS T.m_KINDS (pe_ix ix_ds (pe_glob (v := .ref T.a_KINDS) (by rfl) T.g_KINDS rfl) (e_sl (e_var (pv 0)) o_none (o_some e_int)) (fun _ _ => rfl)))) (ax_cons (e_callX tk GX_read_number hr (by rfl) T.g_read_number T.F_read_number.kp T.b_read_number (a_cons (e_sl (e_var (pv 0)) (o_some e_int) o_none) a_nil)) (ax_v a_nil))))))))
  exact h
end
def b_mixed : FS :=
    (sSeq (sAsg 3 (fOp2 (seeB modD) (fOp2 addL (fOp2 addL (fOp2 (seeB mulD) (fCall 2 F_cell_at (faCons (fVar 0) (faCons (fVar 1) faNil))) (fC (.int 1103515245))) (fOp2 (seeB mulD) (fC (.int 7919)) (fVar 1))) (fC (.int 12345))) (fC (.int 2147483647))))
    (sFrz [3] (sRet (fOp2 (seeB modD) (fOp2 (seeB modD) (fOp2 (seeB modD) (fOp2 (seeB powD) (fVar 3) (fC (.int 5))) (fC (.int 2147483647))) (fC (.int 999983))) (fVar 2)))))
def F_mixed : FF := runF 4 3 b_mixed
section
variable {P : Program} {w : World} {K : PySem.W.Frag} {mg : Str → Option Value} {base : Heap}
theorem ok_mixed (T : Tx K mg w) : FnOk P w K mg base CX0 2 T.f__law_mixed T.d__law_mixed ["_law_script", "_law_k", "_law_many"] (spF ⟨K, P, w⟩ 3 F_mixed) := by
  have G_cell_at := ok_cell_at (P := P) (base := base) T
  have h : FnOk P w K mg base CX0 2 T.f__law_mixed T.d__law_mixed ["_law_script", "_law_k", "_law_many"] (spF ⟨K, P, w⟩ [("_law_script" : Str), ("_law_k" : Str), ("_law_many" : Str)].length (runF [("_law_script" : Str), ("_law_k" : Str), ("_law_many" : Str), ("_law_spun" : Str)].length [("_law_script" : Str), ("_law_k" : Str), ("_law_many" : Str)].length b_mixed)) := fn_pi (body := b_mixed) T.F__law_mixed sc_mixed fun cdv A outer s H E hr =>
    (b_cons (s_set (ps_set (i := 3) sc_mixed.nd rfl (Or.inl rfl) (e_op op_modN (RDs.do rd_modD) (e_op op_addA rd_add2 (e_op op_addA rd_add2 (e_op op_mulA (RDs.do rd_mulD) (e_call G_cell_at hr (by rfl) T.g__law_cell_at T.F__law_cell_at.kp T.b__law_cell_at (a_cons (e_var (pv 0)) (a_cons (e_var (pv 1)) a_nil))) e_int) (e_op op_mulA (RDs.do rd_mulD) e_int (e_var (pv 1)))) e_int) e_int)))
    (b_one (s_frz (is := [3]) (s_retE (ps_ret (e_op op_modN (RDs.do rd_modD) (e_op op_modN (RDs.do rd_modD) (e_op op_modN (RDs.do rd_modD) (e_op op_pow (RDs.do rd_powD) (e_var (pv 3)) e_int) e_int) e_int) (e_var (pv 2))))))))
  exact h
end
def b_are_things : FS :=
    (sSeq (sIf (tNotF (bT (fCall 3 F_is_tuple (faCons (fVar 0) (faCons (fC (.int 1)) (faCons (fC (.int 5)) faNil))))))
    (sRet (fC (.bool false)))
    sNx)
    (sSeq (sAsg 1 (fC (.int 1)))
    (sSeq (sFor (itTake (fVar 0)) (tgN 2) [2]
    (sSeq (sIf (tNotF (bT (fCall 1 F_is_thing (faCons (fVar 2) faNil))))
    (sRet (fC (.bool false)))
    sNx)
    (sAsg 1 (fOp2 (seeB mulD) (fVar 1) (lenS (faCons (fVar 2) faNil))))))
    (sFrz [1] (sRet (fOp2 (seeB (ordD .LtE)) (fVar 1) (fC (.int 256))))))))
def F_are_things : FF := runF 3 1 b_are_things
section
variable {P : Program} {w : World} {K : PySem.W.Frag} {mg : Str → Option Value} {base : Heap}
theorem ok_are_things (T : Tx K mg w) : FnOk P w K mg base CX0 3 T.f_are_things T.d_are_things ["value"] (spF ⟨K, P, w⟩ 1 F_are_things) := by
  have G_is_tuple := ok_is_tuple (P := P) (base := base) T
  have G_is_thing := ok_is_thing (P := P) (base := base) T
  have h : FnOk P w K mg base CX0 3 T.f_are_things T.d_are_things ["value"] (spF ⟨K, P, w⟩ [("value" : Str)].length (runF [("value" : Str), ("many" : Str), ("thing" : Str)].length [("value" : Str)].length b_are_things)) := fn_pi (body := b_are_things) T.F_are_things sc_are_things fun cdv A outer s H E hr =>
    (b_cons (s_ite (t_not (t_val (e_call G_is_tuple (hr.mono (by decide)) (by rfl) T.g_is_tuple T.F_is_tuple.kp T.b_is_tuple (a_cons (e_var (pv 0)) (a_cons e_int (a_cons (e_cst (pe_glob (v := .int 5) (by rfl) T.g_MOST_THINGS ⟨_, rfl⟩) (fun _ => .int _)) a_nil))))))
    (b_one (s_retE (ps_ret e_bl)))
    b_nil)
    (b_cons (s_set (ps_set (i := 1) sc_are_things.nd rfl (Or.inl rfl) e_int))
    (b_cons (s_for (wp := [2]) (gd_name (i := 2)) (ps_for PassesOwn.never rfl (i_for (e_var (pv 0))) (pg_name (i := 2) sc_are_things.nd rfl (Or.inl rfl))
    (b_cons (s_ite (t_not (t_val (e_call G_is_thing hr (by rfl) T.g_is_thing T.F_is_thing.kp T.b_is_thing (a_cons (e_var (pv 2)) a_nil))))
    (b_one (s_retE (ps_ret e_bl)))
    b_nil)
    (b_one (s_set (ps_set (i := 1) sc_are_things.nd rfl (Or.inl rfl) (e_op op_mulA (RDs.do rd_mulD) (e_var (pv 1)) (e_len (pe_callB call_lenA (by rfl) T.z_len PySem.boot_len (a_cons (e_var (pv 2)) a_nil))))))))))
    (b_one (s_frz (is := [1]) (s_retE (ps_ret (e_cmp (op_ord (.inr (.inr (.inl rfl))) hr.units) (RDs.do rd_ord) (e_var (pv 1)) (e_cst (pe_glob (v := .int 256) (by rfl) T.g_MOST_WORLDS ⟨_, rfl⟩) (fun _ => .int _)) (nomark _)))))))))
  exact h
end
def b_is_step : FS :=
    (sSeq (sIf (tNotF (bT (fCall 3 F_is_tuple (faCons (fVar 0) (faCons (fC (.int 2)) (faCons (fC (.int 2)) faNil))))))
    (sRet (fC (.bool false)))
    sNx)
    (sSeq (sAsgT (tgT [(tgN 3), (tgN 4)]) (fVar 0))
    (sSeq (sIf (tOrF (tNotF (bT (fIsi isStr (fVar 3)))) (bT (fInM true mREADINGS (fVar 3))))
    (sRet (fC (.bool false)))
    sNx)
    (sSeq (sIf (tNotF (bT (fCall 3 F_is_tuple (faCons (fVar 4) (faCons (fIxM mREADINGS (fVar 3)) (faCons (fIxM mREADINGS (fVar 3)) faNil))))))
    (sRet (fC (.bool false)))
    sNx)
    (sSeq (sFor (itTake (fVar 4)) (tgN 5) [5]
    (sIf (tNotF (bT (fCall 3 F_is_reading (faCons (fVar 5) (faCons (fVar 1) (faCons (fVar 2) faNil))))))
    (sRet (fC (.bool false)))
    sNx))
    (sRet (fC (.bool true))))))))
def F_is_step : FF := runF 6 3 b_is_step
section
variable {P : Program} {w : World} {K : PySem.W.Frag} {mg : Str → Option Value} {base : Heap}
theorem ok_is_step (T : Tx K mg w) : FnOk P w K mg base CX0 3 T.f_is_step T.d_is_step ["value", "many_things", "step"] (spF ⟨K, P, w⟩ 3 F_is_step) := by
  have G_is_tuple := ok_is_tuple (P := P) (base := base) T
  have G_is_reading := ok_is_reading (P := P) (base := base) T
  have h : FnOk P w K mg base CX0 3 T.f_is_step T.d_is_step ["value", "many_things", "step"] (spF ⟨K, P, w⟩ [("value" : Str), ("many_things" : Str), ("step" : Str)].length (runF [("value" : Str), ("many_things" : Str), ("step" : Str), ("operation" : Str), ("reads" : Str), ("reading" : Str)].length [("value" : Str), ("many_things" : Str), ("step" : Str)].length b_is_step)) := fn_pi (body := b_is_step) T.F_is_step sc_is_step fun cdv A outer s H E hr =>
    (b_cons (s_ite (t_not (t_val (e_call G_is_tuple (hr.mono (by decide)) (by rfl) T.g_is_tuple T.F_is_tuple.kp T.b_is_tuple (a_cons (e_var (pv 0)) (a_cons e_int (a_cons e_int a_nil))))))
    (b_one (s_retE (ps_ret e_bl)))
    b_nil)
    (b_cons (s_setT (gd_tup (gds_cons (gd_name (i := 3)) (gds_cons (gd_name (i := 4)) gds_nil)) rfl) (ps_asg (e_var (pv 0)) (pg_tup rfl (pgs_cons (pg_name (i := 3) sc_is_step.nd rfl (Or.inl rfl)) (pgs_cons (pg_name (i := 4) sc_is_step.nd rfl (Or.inl rfl)) pgs_nil)))))
    (b_cons (s_ite (PW.pt (w_or (t_not (t_val (e_isi (T := "str") (kit_str _) (by rfl) T.z_isinstance (pa_cons (e_var (pv 3)) (pa_cons (pe_bltn (v := .ty "str") (by rfl) T.z_str (by decide +kernel) rfl) pa_nil))))) (pw_or1 (t_notInM T.m_READINGS (pt_cmpR op_notInDm (e_var (pv 3)) (pe_glob (v := .ref T.a_READINGS) (by rfl) T.g_READINGS rfl) (by rfl))))))
    (b_one (s_retE (ps_ret e_bl)))
    b_nil)
    (b_cons (s_ite (t_not (t_val (e_call G_is_tuple (hr.mono (by decide)) (by rfl) T.g_is_tuple T.F_is_tuple.kp T.b_is_tuple (a_cons (e_var (pv 4)) (a_cons (e_ixM T.m_READINGS (pe_ix ix_dm (pe_glob (v := .ref T.a_READINGS) (by rfl) T.g_READINGS rfl) (e_var (pv 3)) (fun _ _ => rfl))) (a_cons (e_ixM T.m_READINGS (pe_ix ix_dm (pe_glob (v := .ref T.a_READINGS) (by rfl) T.g_READINGS rfl) (e_var (pv 3)) (fun _ _ => rfl))) a_nil))))))
    (b_one (s_retE (ps_ret e_bl)))
    b_nil)
    (b_cons (s_for (wp := [5]) (gd_name (i := 5)) (ps_for PassesOwn.never rfl (i_for (e_var (pv 4))) (pg_name (i := 5) sc_is_step.nd rfl (Or.inl rfl))
    (b_one (s_ite (t_not (t_val (e_call G_is_reading hr (by rfl) T.g_is_reading T.F_is_reading.kp T.b_is_reading (a_cons (e_var (pv 5)) (a_cons (e_var (pv 1)) (a_cons (e_var (pv 2)) a_nil))))))
    (b_one (s_retE (ps_ret e_bl)))
    b_nil))))
    (b_one (s_retE (ps_ret e_bl))))))))
  exact h
end
def bx_read_step : FX :=
    (xSeq (xFl (sAsg 1 (fMt "str" splitG (fVar 0) (faCons (fC (.str " ")) faNil))))
    (xRet (fTupX (axCons (xV (fOp2 (seeB ixD) (fVar 1) (fC (.int 0)))) (axCons (fBiX (see1 tupG) (axCons (fLcX (itSee (fSl (fVar 1) (oSome (fC (.int 1))) oNone)) (tgN 2) [2] tT (fCallX 1 X_read_reading (faCons (fVar 2) faNil))) (axV faNil))) (axV faNil))))))
def X_read_step : FFX := runFX 3 1 bx_read_step
section
variable {P : Program} {w : World} {K : PySem.W.Frag} {mg : Str → Option Value} {base : Heap}
theorem okX_read_step (T : Tx K mg w) : FnOk P w K mg base (L2N.CX P w) 3 T.f_read_step T.d_read_step ["text"] (spX ⟨K, P, w⟩ mg 1 X_read_step) := by
  have GX_read_reading := okX_read_reading (P := P) (base := base) T
  have h : FnOk P w K mg base (L2N.CX P w) 3 T.f_read_step T.d_read_step ["text"] (spX ⟨K, P, w⟩ mg [("text" : Str)].length (runFX [("text" : Str), ("words" : Str), ("word" : Str)].length [("text" : Str)].length bx_read_step)) := fn_piX (body := bx_read_step) T.F_read_step sc_read_step fun cdv A outer s H E hr W tk =>
    (x_cons (s_xFl (s_set (ps_set (i := 1) sc_read_step.nd rfl (Or.inl rfl) (e_mt md_split (pe_bm PySem.F.plainAttrs_str PySem.F.slot_str_split PySem.F.type_str_split mt_split (e_var (pv 0)) (a_cons (e_cst (pe_glob (v := .str " ") (by rfl) T.g_WORDS ⟨_, rfl⟩) (fun _ => .str _)) a_nil))))))
    (x_one (s_retX (ps_ret (e_tupX (ax_cons (e_xV (e_ix ix_seq (RDs.do rd_ixD) (e_var (pv 1)) e_int (fun _ _ => rfl))) (ax_cons (e_tyX call_tuple_of cd_tup (by rfl) T.z_tuple (by decide +kernel) (ax_cons (e_lcX (own := [("word", 2)]) rfl rfl tk (gd_name (i := 2)) (by decide) rfl sc_read_step.nd (i_lc (e_sl (e_var (pv 1)) (o_some e_int) o_none)) (blkOk_by (own := [("word", 2)]) (N := ["text", "words", "word"]) (sc := defScope s_read_step) (by decide +kernel)) (fun _ _ _ _ _ => (pg_name (i := 2) sc_read_step.nd rfl (Or.inl rfl))) (fun _ _ _ _ _ => pts_yes) (fun _ _ _ _ _ _ _ hp => (e_callP hp GX_read_reading hr (by rfl) T.g_read_reading T.F_read_reading.kp T.b_read_reading (a_cons (e_var (pv 2)) a_nil)))) (ax_v a_nil))) (ax_v a_nil))))))))
  exact h
end
def b_draw : FS :=
    (sSeq (sDraw 1)
    (sRet (fCall 3 F_mixed (faCons (fVar 0) (faCons (lenS (faCons (fVar 1) faNil)) (faCons (fVar 2) faNil))))))
def F_draw : FF := runF 3 3 b_draw
section
variable {P : Program} {w : World} {K : PySem.W.Frag} {mg : Str → Option Value} {base : Heap}
theorem ok_draw (T : Tx K mg w) : FnOk P w K mg base CX0 3 T.f__law_draw T.d__law_draw ["_law_script", "_law_state", "_law_many"] (spF ⟨K, P, w⟩ 3 F_draw) := by
  have G_mixed := ok_mixed (P := P) (base := base) T
  have h : FnOk P w K mg base CX0 3 T.f__law_draw T.d__law_draw ["_law_script", "_law_state", "_law_many"] (spF ⟨K, P, w⟩ [("_law_script" : Str), ("_law_state" : Str), ("_law_many" : Str)].length (runF [("_law_script" : Str), ("_law_state" : Str), ("_law_many" : Str)].length [("_law_script" : Str), ("_law_state" : Str), ("_law_many" : Str)].length b_draw)) := fn_pi (body := b_draw) T.F__law_draw sc_draw fun cdv A outer s H E hr =>
    (b_cons (st_draw (ps_expr (pe_bm PySem.F.plainAttrs_list PySem.F.slot_list_append PySem.F.type_list_append mt_append (pv 1) (pa_cons pe_int pa_nil))))
    (b_one (s_retE (ps_ret (e_call G_mixed hr (by rfl) T.g__law_mixed T.F__law_mixed.kp T.b__law_mixed (a_cons (e_var (pv 0)) (a_cons (e_len (pe_callB call_lenA (by rfl) T.z_len PySem.boot_len (a_cons (e_var (pv 1)) a_nil))) (a_cons (e_var (pv 2)) a_nil))))))))
  exact h
end
def b_are_steps : FS :=
    (sSeq (sIf (tNotF (bT (fCall 3 F_is_tuple (faCons (fVar 0) (faCons (fC (.int 1)) (faCons (fC (.int 8)) faNil))))))
    (sRet (fC (.bool false)))
    sNx)
    (sSeq (sFor (itRng1 (faCons (lenS (faCons (fVar 0) faNil)) faNil)) (tgN 2) [2]
    (sIf (tNotF (bT (fCall 3 F_is_step (faCons (fOp2 (seeB ixD) (fVar 0) (fVar 2)) (faCons (fVar 1) (faCons (fVar 2) faNil))))))
    (sRet (fC (.bool false)))
    sNx))
    (sRet (fC (.bool true)))))
def F_are_steps : FF := runF 3 2 b_are_steps
section
variable {P : Program} {w : World} {K : PySem.W.Frag} {mg : Str → Option Value} {base : Heap}
theorem ok_are_steps (T : Tx K mg w) : FnOk P w K mg base CX0 4 T.f_are_steps T.d_are_steps ["value", "many_things"] (spF ⟨K, P, w⟩ 2 F_are_steps) := by
  have G_is_tuple := ok_is_tuple (P := P) (base := base) T
  have G_is_step := ok_is_step (P := P) (base := base) T
  have h : FnOk P w K mg base CX0 4 T.f_are_steps T.d_are_steps ["value", "many_things"] (spF ⟨K, P, w⟩ [("value" : Str), ("many_things" : Str)].length (runF [("value" : Str), ("many_things" : Str), ("at" : Str)].length [("value" : Str), ("many_things" : Str)].length b_are_steps)) := fn_pi (body := b_are_steps) T.F_are_steps sc_are_steps fun cdv A outer s H E hr =>
    (b_cons (s_ite (t_not (t_val (e_call G_is_tuple (hr.mono (by decide)) (by rfl) T.g_is_tuple T.F_is_tuple.kp T.b_is_tuple (a_cons (e_var (pv 0)) (a_cons e_int (a_cons (e_cst (pe_glob (v := .int 8) (by rfl) T.g_MOST_STEPS ⟨_, rfl⟩) (fun _ => .int _)) a_nil))))))
    (b_one (s_retE (ps_ret e_bl)))
    b_nil)
    (b_cons (s_for (wp := [2]) (gd_name (i := 2)) (ps_for PassesOwn.never rfl (i_rng1 (pi_range1 (by rfl) T.z_range (a_cons (e_len (pe_callB call_lenA (by rfl) T.z_len PySem.boot_len (a_cons (e_var (pv 0)) a_nil))) a_nil))) (pg_name (i := 2) sc_are_steps.nd rfl (Or.inl rfl))
    (b_one (s_ite (t_not (t_val (e_call G_is_step hr (by rfl) T.g_is_step T.F_is_step.kp T.b_is_step (a_cons (e_ix ix_seq (RDs.do rd_ixD) (e_var (pv 0)) (e_var (pv 2)) (fun _ _ => rfl)) (a_cons (e_var (pv 1)) (a_cons (e_var (pv 2)) a_nil))))))
    (b_one (s_retE (ps_ret e_bl)))
    b_nil))))
    (b_one (s_retE (ps_ret e_bl)))))
  exact h
end
def b_pick : FS :=
    (sRet (fOp2 (seeB ixD) (fVar 2) (fCall 3 F_draw (faCons (fVar 0) (faCons (fVar 1) (faCons (lenS (faCons (fVar 2) faNil)) faNil))))))
def F_pick : FF := runF 3 3 b_pick
section
variable {P : Program} {w : World} {K : PySem.W.Frag} {mg : Str → Option Value} {base : Heap}
theorem ok_pick (T : Tx K mg w) : FnOk P w K mg base CX0 4 T.f__law_pick T.d__law_pick ["_law_script", "_law_state", "_law_some"] (spF ⟨K, P, w⟩ 3 F_pick) := by
  have G_draw := ok_draw (P := P) (base := base) T
  have h : FnOk P w K mg base CX0 4 T.f__law_pick T.d__law_pick ["_law_script", "_law_state", "_law_some"] (spF ⟨K, P, w⟩ [("_law_script" : Str), ("_law_state" : Str), ("_law_some" : Str)].length (runF [("_law_script" : Str), ("_law_state" : Str), ("_law_some" : Str)].length [("_law_script" : Str), ("_law_state" : Str), ("_law_some" : Str)].length b_pick)) := fn_pi (body := b_pick) T.F__law_pick sc_pick fun cdv A outer s H E hr =>
    (b_one (s_retE (ps_ret (e_ix ix_seq (RDs.do rd_ixD) (e_var (pv 2)) (e_call G_draw hr (by rfl) T.g__law_draw T.F__law_draw.kp T.b__law_draw (a_cons (e_var (pv 0)) (a_cons (e_var (pv 1)) (a_cons (e_len (pe_callB call_lenA (by rfl) T.z_len PySem.boot_len (a_cons (e_var (pv 2)) a_nil))) a_nil)))) (fun _ _ => rfl)))))
  exact h
end
def b_some_of : FS :=
    (sSeq (sPar 4 5 (fBi (see1 lstG) (faCons (fVar 2) faNil)) (fLst faNil))
    (sSeq (sWhile (tAndF (bT (fOp2 (seeB (eqD true)) (fVar 4) (fLst faNil))) (bT (fOp2 (seeB (ordD .Lt)) (lenS (faCons (fVar 5) faNil)) (fVar 3)))) []
    (sAppPop 5 4 (fCall 3 F_draw (faCons (fVar 0) (faCons (fVar 1) (faCons (lenS (faCons (fVar 4) faNil)) faNil))))) fuel)
    (sFrz [5] (sRet (fBi (see1 tupG) (faCons (fBi (see1 sortG) (faCons (fVar 5) faNil)) faNil))))))
def F_some_of : FF := runF 6 4 b_some_of
section
variable {P : Program} {w : World} {K : PySem.W.Frag} {mg : Str → Option Value} {base : Heap}
theorem ok_some_of (T : Tx K mg w) : FnOk P w K mg base CX0 4 T.f__law_some_of T.d__law_some_of ["_law_script", "_law_state", "_law_some", "_law_count"] (spF ⟨K, P, w⟩ 4 F_some_of) := by
  have G_draw := ok_draw (P := P) (base := base) T
  have h : FnOk P w K mg base CX0 4 T.f__law_some_of T.d__law_some_of ["_law_script", "_law_state", "_law_some", "_law_count"] (spF ⟨K, P, w⟩ [("_law_script" : Str), ("_law_state" : Str), ("_law_some" : Str), ("_law_count" : Str)].length (runF [("_law_script" : Str), ("_law_state" : Str), ("_law_some" : Str), ("_law_count" : Str), ("_law_left" : Str), ("_law_found" : Str)].length [("_law_script" : Str), ("_law_state" : Str), ("_law_some" : Str), ("_law_count" : Str)].length b_some_of)) := fn_pi (body := b_some_of) T.F__law_some_of sc_some_of fun cdv A outer s H E hr =>
    (b_cons (s_par2 (ps_par (i := 4) (j := 5) (by rfl) sc_some_of.nd rfl rfl (by decide) rfl rfl (pa_cons (e_ty call_list_of cd_lst (by rfl) T.z_list (by decide +kernel) (a_cons (e_var (pv 2)) a_nil)) (pa_cons (e_lst a_nil) pa_nil)) (by rfl)))
    (b_cons (s_while (wp := []) (ps_while PassesOwn.never (PW.pt (w_and (t_cmp (op_neA hr.units) (RDs.do rd_neD') (e_var (pv 4)) (e_lst a_nil) (nomark _)) (pw_and1 (t_cmp (op_ord (.inl rfl) hr.units) (RDs.do rd_ord) (e_len (pe_callB call_lenA (by rfl) T.z_len PySem.boot_len (a_cons (e_var (pv 5)) a_nil))) (e_var (pv 3)) (nomark _)))))
    (b_one (s_appPop (ps_expr (pe_bm PySem.F.plainAttrs_list PySem.F.slot_list_append PySem.F.type_list_append mt_append (pv 5) (pa_cons (pe_bm PySem.F.plainAttrs_list PySem.F.slot_list_pop PySem.F.type_list_pop mt_popAt (pv 4) (pa_cons (e_call G_draw hr (by rfl) T.g__law_draw T.F__law_draw.kp T.b__law_draw (a_cons (e_var (pv 0)) (a_cons (e_var (pv 1)) (a_cons (e_len (pe_callB call_lenA (by rfl) T.z_len PySem.boot_len (a_cons (e_var (pv 4)) a_nil))) a_nil)))) pa_nil)) pa_nil)))))))
    (b_one (s_frz (is := [5]) (s_retE (ps_ret (e_ty call_tuple_of cd_tup (by rfl) T.z_tuple (by decide +kernel) (a_cons (e_bi (cr_sortAll rfl hr.units) cd_sortAll (by rfl) T.z_sorted (by decide +kernel) (a_cons (e_var (pv 5)) a_nil)) a_nil))))))))
  exact h
end
def b_is_recipe : FS :=
    (sSeq (sIf (tNotF (bT (fCall 3 F_is_tuple (faCons (fVar 0) (faCons (fC (.int 3)) (faCons (fC (.int 3)) faNil))))))
    (sRet (fC (.bool false)))
    sNx)
    (sSeq (sAsgT (tgT [(tgN 1), (tgN 2), (tgN 3)]) (fVar 0))
    (sRet (fAnd (fCall 1 F_are_things (faCons (fVar 1) faNil)) (fAnd (fCall 2 F_are_steps (faCons (fVar 2) (faCons (lenS (faCons (fVar 1) faNil)) faNil))) (fCall 2 F_is_made (faCons (fVar 3) (faCons (lenS (faCons (fVar 2) faNil)) faNil))))))))
def F_is_recipe : FF := runF 4 1 b_is_recipe
section
variable {P : Program} {w : World} {K : PySem.W.Frag} {mg : Str → Option Value} {base : Heap}
theorem ok_is_recipe (T : Tx K mg w) : FnOk P w K mg base CX0 5 T.f_is_recipe T.d_is_recipe ["value"] (spF ⟨K, P, w⟩ 1 F_is_recipe) := by
  have G_is_tuple := ok_is_tuple (P := P) (base := base) T
  have G_is_made := ok_is_made (P := P) (base := base) T
  have G_are_steps := ok_are_steps (P := P) (base := base) T
  have G_are_things := ok_are_things (P := P) (base := base) T
  have h : FnOk P w K mg base CX0 5 T.f_is_recipe T.d_is_recipe ["value"] (spF ⟨K, P, w⟩ [("value" : Str)].length (runF [("value" : Str), ("things" : Str), ("steps" : Str), ("made" : Str)].length [("value" : Str)].length b_is_recipe)) := fn_pi (body := b_is_recipe) T.F_is_recipe sc_is_recipe fun cdv A outer s H E hr =>
    (b_cons (s_ite (t_not (t_val (e_call G_is_tuple (hr.mono (by decide)) (by rfl) T.g_is_tuple T.F_is_tuple.kp T.b_is_tuple (a_cons (e_var (pv 0)) (a_cons e_int (a_cons e_int a_nil))))))
    (b_one (s_retE (ps_ret e_bl)))
    b_nil)
    (b_cons (s_setT (gd_tup (gds_cons (gd_name (i := 1)) (gds_cons (gd_name (i := 2)) (gds_cons (gd_name (i := 3)) gds_nil))) rfl) (ps_asg (e_var (pv 0)) (pg_tup rfl (pgs_cons (pg_name (i := 1) sc_is_recipe.nd rfl (Or.inl rfl)) (pgs_cons (pg_name (i := 2) sc_is_recipe.nd rfl (Or.inl rfl)) (pgs_cons (pg_name (i := 3) sc_is_recipe.nd rfl (Or.inl rfl)) pgs_nil))))))
    (b_one (s_retE (ps_ret (e_and (e_call G_are_things (hr.mono (by decide)) (by rfl) T.g_are_things T.F_are_things.kp T.b_are_things (a_cons (e_var (pv 1)) a_nil)) (e_and (e_call G_are_steps hr (by rfl) T.g_are_steps T.F_are_steps.kp T.b_are_steps (a_cons (e_var (pv 2)) (a_cons (e_len (pe_callB call_lenA (by rfl) T.z_len PySem.boot_len (a_cons (e_var (pv 1)) a_nil))) a_nil))) (pe_one (e_call G_is_made (hr.mono (by decide)) (by rfl) T.g_is_made T.F_is_made.kp T.b_is_made (a_cons (e_var (pv 3)) (a_cons (e_len (pe_callB call_lenA (by rfl) T.z_len PySem.boot_len (a_cons (e_var (pv 2)) a_nil))) a_nil)))))))))))
  exact h
end
def b_some_thing : FS :=
    (sSeq (sAsg 2 (fCall 3 F_pick (faCons (fVar 0) (faCons (fVar 1) (faCons (fTup (faCons (fTup (faCons (fC (.str "a")) (faCons (fC (.str "b")) faNil))) (faCons (fTup (faCons (fC (.str "")) (faCons (fC (.str "x")) faNil))) (faCons (fTup (faCons (fC (.str "ab")) (faCons (fC (.str "ba")) faNil))) (faCons (fTup (faCons (fC (.str "")) (faCons (fC (.str "a")) (faCons (fC (.str "aab")) faNil)))) (faCons (fTup (faCons (fC (.str "c")) faNil)) (faCons (fTup (faCons (fC (.str "b")) (faCons (fC (.str "ca")) (faCons (fC (.str "cb")) faNil)))) faNil))))))) faNil)))))
    (sFrz [2] (sRet (fIf (bT (fOp2 (seeB (ordD .Gt)) (fCall 3 F_draw (faCons (fVar 0) (faCons (fVar 1) (faCons (fC (.int 4)) faNil)))) (fC (.int 0)))) (fVar 2) (fSl (fVar 2) oNone (oSome (fC (.int 2))))))))
def F_some_thing : FF := runF 3 2 b_some_thing
section
variable {P : Program} {w : World} {K : PySem.W.Frag} {mg : Str → Option Value} {base : Heap}
theorem ok_some_thing (T : Tx K mg w) : FnOk P w K mg base CX0 5 T.f__law_some_thing T.d__law_some_thing ["_law_script", "_law_state"] (spF ⟨K, P, w⟩ 2 F_some_thing) := by
  have G_pick := ok_pick (P := P) (base := base) T
  have G_draw := ok_draw (P := P) (base := base) T
  have h : FnOk P w K mg base CX0 5 T.f__law_some_thing T.d__law_some_thing ["_law_script", "_law_state"] (spF ⟨K, P, w⟩ [("_law_script" : Str), ("_law_state" : Str)].length (runF [("_law_script" : Str), ("_law_state" : Str), ("_law_some" : Str)].length [("_law_script" : Str), ("_law_state" : Str)].length b_some_thing)) := fn_pi (body := b_some_thing) T.F__law_some_thing sc_some_thing fun cdv A outer s H E hr =>
    (b_cons (s_set (ps_set (i := 2) sc_some_thing.nd rfl (Or.inl rfl) (e_call G_pick hr (by rfl) T.g__law_pick T.F__law_pick.kp T.b__law_pick (a_cons (e_var (pv 0)) (a_cons (e_var (pv 1)) (a_cons (e_tup (a_cons (e_tup (a_cons e_str (a_cons e_str a_nil))) (a_cons (e_tup (a_cons e_str (a_cons e_str a_nil))) (a_cons (e_tup (a_cons e_str (a_cons e_str a_nil))) (a_cons (e_tup (a_cons e_str (a_cons e_str (a_cons e_str a_nil)))) (a_cons (e_tup (a_cons e_str a_nil)) (a_cons (e_tup (a_cons e_str (a_cons e_str (a_cons e_str a_nil)))) a_nil))))))) a_nil))))))
    (b_one (s_frz (is := [2]) (s_retE (ps_ret (e_if (t_cmp (op_ord (.inr (.inl rfl)) hr.units) (RDs.do rd_ord) (e_call G_draw (hr.mono (by decide)) (by rfl) T.g__law_draw T.F__law_draw.kp T.b__law_draw (a_cons (e_var (pv 0)) (a_cons (e_var (pv 1)) (a_cons e_int a_nil)))) e_int (nomark _)) (e_var (pv 2)) (e_sl (e_var (pv 2)) o_none (o_some e_int))))))))
  exact h
end
def b_some_step : FS :=
    (sSeq (sAsg 4 (fTup (faCons (fC (.str "join")) (faCons (fC (.str "join")) (faCons (fC (.str "less")) (faCons (fC (.str "same")) (faCons (fC (.str "pick")) (faCons (fC (.str "sort")) (faCons (fC (.str "turn")) (faCons (fC (.str "first")) (faCons (fC (.str "rest")) faNil)))))))))))
    (sSeq (sPar 5 6 (fCall 3 F_pick (faCons (fVar 0) (faCons (fVar 1) (faCons (fVar 4) faNil)))) (fLst faNil))
    (sSeq (sFor (itRng1 (faCons (fGetLit [("join", 2), ("less", 2), ("same", 2), ("pick", 3)] (fVar 5) (fC (.int 1))) faNil)) (tgN 7) [7]
    (sIf (tOrF (bT (fOp2 (seeB (eqD false)) (fVar 3) (fC (.int 0)))) (bT (fOp2 (seeB (ordD .Lt)) (fCall 3 F_draw (faCons (fVar 0) (faCons (fVar 1) (faCons (fC (.int 5)) faNil)))) (fC (.int 3)))))
    (sApp 6 (fTup (faCons (fC (.str "thing")) (faCons (fCall 3 F_draw (faCons (fVar 0) (faCons (fVar 1) (faCons (fVar 2) faNil)))) faNil))))
    (sApp 6 (fTup (faCons (fC (.str "step")) (faCons (fCall 3 F_draw (faCons (fVar 0) (faCons (fVar 1) (faCons (fVar 3) faNil)))) faNil))))))
    (sFrz [5, 6] (sRet (fTup (faCons (fVar 5) (faCons (fBi (see1 tupG) (faCons (fVar 6) faNil)) faNil))))))))
def F_some_step : FF := runF 8 4 b_some_step
section
variable {P : Program} {w : World} {K : PySem.W.Frag} {mg : Str → Option Value} {base : Heap}
theorem ok_some_step (T : Tx K mg w) : FnOk P w K mg base CX0 5 T.f__law_some_step T.d__law_some_step ["_law_script", "_law_state", "_law_things", "_law_count"] (spF ⟨K, P, w⟩ 4 F_some_step) := by
  have G_pick := ok_pick (P := P) (base := base) T
  have G_draw := ok_draw (P := P) (base := base) T
  have h : FnOk P w K mg base CX0 5 T.f__law_some_step T.d__law_some_step ["_law_script", "_law_state", "_law_things", "_law_count"] (spF ⟨K, P, w⟩ [("_law_script" : Str), ("_law_state" : Str), ("_law_things" : Str), ("_law_count" : Str)].length (runF [("_law_script" : Str), ("_law_state" : Str), ("_law_things" : Str), ("_law_count" : Str), ("_law_names" : Str), ("_law_name" : Str), ("_law_reads" : Str), ("_law_again" : Str)].length [("_law_script" : Str), ("_law_state" : Str), ("_law_things" : Str), ("_law_count" : Str)].length b_some_step)) := fn_pi (body := b_some_step) T.F__law_some_step sc_some_step fun cdv A outer s H E hr =>
    (b_cons (s_set (ps_set (i := 4) sc_some_step.nd rfl (Or.inl rfl) (e_tup (a_cons e_str (a_cons e_str (a_cons e_str (a_cons e_str (a_cons e_str (a_cons e_str (a_cons e_str (a_cons e_str (a_cons e_str a_nil))))))))))))
    (b_cons (s_par2 (ps_par (i := 5) (j := 6) (by rfl) sc_some_step.nd rfl rfl (by decide) rfl rfl (pa_cons (e_call G_pick hr (by rfl) T.g__law_pick T.F__law_pick.kp T.b__law_pick (a_cons (e_var (pv 0)) (a_cons (e_var (pv 1)) (a_cons (e_var (pv 4)) a_nil)))) (pa_cons (e_lst a_nil) pa_nil)) (by rfl)))
    (b_cons (s_for (wp := [7]) (gd_name (i := 7)) (ps_for PassesOwn.never rfl (i_rng1 (pi_range1 (by rfl) T.z_range (a_cons (e_getLit (m := [("join", 2), ("less", 2), ("same", 2), ("pick", 3)]) (pe_dget2 (hu_of hr) (pe_disp (pps_cons pe_str pe_int (pps_cons pe_str pe_int (pps_cons pe_str pe_int (pps_cons pe_str pe_int pps_nil)))) (by rfl) (by rfl) (fun z => by cases z) (by decide)) (e_var (pv 5)) e_int ⟨rfl, rfl, rfl, rfl⟩)) a_nil))) (pg_name (i := 7) sc_some_step.nd rfl (Or.inl rfl))
    (b_one (s_ite (PW.pt (w_or (t_cmp (op_eqA hr.units) (RDs.do rd_eqD') (e_var (pv 3)) e_int (nomark _)) (pw_or1 (t_cmp (op_ord (.inl rfl) hr.units) (RDs.do rd_ord) (e_call G_draw (hr.mono (by decide)) (by rfl) T.g__law_draw T.F__law_draw.kp T.b__law_draw (a_cons (e_var (pv 0)) (a_cons (e_var (pv 1)) (a_cons e_int a_nil)))) e_int (nomark _)))))
    (b_one (s_app (ps_expr (pe_bm PySem.F.plainAttrs_list PySem.F.slot_list_append PySem.F.type_list_append mt_append (pv 6) (pa_cons (e_tup (a_cons e_str (a_cons (e_call G_draw (hr.mono (by decide)) (by rfl) T.g__law_draw T.F__law_draw.kp T.b__law_draw (a_cons (e_var (pv 0)) (a_cons (e_var (pv 1)) (a_cons (e_var (pv 2)) a_nil)))) a_nil))) pa_nil)))))
    (b_one (s_app (ps_expr (pe_bm PySem.F.plainAttrs_list PySem.F.slot_list_append PySem.F.type_list_append mt_append (pv 6) (pa_cons (e_tup (a_cons e_str (a_cons (e_call G_draw (hr.mono (by decide)) (by rfl) T.g__law_draw T.F__law_draw.kp T.b__law_draw (a_cons (e_var (pv 0)) (a_cons (e_var (pv 1)) (a_cons (e_var (pv 3)) a_nil)))) a_nil))) pa_nil)))))))))
    (b_one (s_frz (is := [5, 6]) (s_retE (ps_ret (e_tup (a_cons (e_var (pv 5)) (a_cons (e_ty call_tuple_of cd_tup (by rfl) T.z_tuple (by decide +kernel) (a_cons (e_var (pv 6)) a_nil)) a_nil))))))))))
  exact h
end
def b_check_recipe : FS :=
    (sIf (tNotF (bT (fCall 1 F_is_recipe (faCons (fVar 0) faNil))))
    sNever
    sNx)
def F_check_recipe : FF := runF 1 1 b_check_recipe
section
variable {P : Program} {w : World} {K : PySem.W.Frag} {mg : Str → Option Value} {base : Heap}
theorem ok_check_recipe (T : Tx K mg w) : FnOk P w K mg base CX0 6 T.f_check_recipe T.d_check_recipe ["value"] (spF ⟨K, P, w⟩ 1 F_check_recipe) := by
  have G_is_recipe := ok_is_recipe (P := P) (base := base) T
  have h : FnOk P w K mg base CX0 6 T.f_check_recipe T.d_check_recipe ["value"] (spF ⟨K, P, w⟩ [("value" : Str)].length (runF [("value" : Str)].length [("value" : Str)].length b_check_recipe)) := fn_pi (body := b_check_recipe) T.F_check_recipe sc_check_recipe fun cdv A outer s H E hr =>
    (b_one (s_ite (t_not (t_val (e_call G_is_recipe hr (by rfl) T.g_is_recipe T.F_is_recipe.kp T.b_is_recipe (a_cons (e_var (pv 0)) a_nil))))
    (b_one s_never)
    b_nil))
  exact h
end
def bx_parse_recipe : FX :=
    (xSeq (xIf (tNotF (bT (fIsi isStr (fVar 0))))
    (xRaise "ParseError")
    (xFl sNx))
    (xSeq (xFl (sAsg 1 (fMt "str" splitG (fVar 0) (faCons (fC (.str "; ")) faNil))))
    (xSeq (xIf (bT (fOp2 (seeB (eqD true)) (lenS (faCons (fVar 1) faNil)) (fC (.int 3))))
    (xRaise "ParseError")
    (xFl sNx))
    (xSeq (xFl (sAsg 2 (fLc (itSee (fMt "str" splitG (fOp2 (seeB ixD) (fVar 1) (fC (.int 0))) (faCons (fC (.str ", ")) faNil))) (tgN 6) [6] tT (fCall 1 F_read_thing (faCons (fVar 6) faNil)))))
    (xSeq (xAsg 3 (fLcX (itSee (fMt "str" splitG (fOp2 (seeB ixD) (fVar 1) (fC (.int 1))) (faCons (fC (.str ", ")) faNil))) (tgN 6) [6] tT (fCallX 1 X_read_step (faCons (fVar 6) faNil))))
    (xSeq (xAsg 4 (fLcX (itSee (fMt "str" splitG (fOp2 (seeB ixD) (fVar 1) (fC (.int 2))) (faCons (fC (.str ", ")) faNil))) (tgN 6) [6] tT (fCallX 1 X_read_number (faCons (fVar 6) faNil))))
    (xSeq (xFl (sAsg 5 (fTup (faCons (fBi (see1 tupG) (faCons (fVar 2) faNil)) (faCons (fBi (see1 tupG) (faCons (fVar 3) faNil)) (faCons (fBi (see1 tupG) (faCons (fVar 4) faNil)) faNil))))))
    (xSeq (xIf (tOrF (tNotF (bT (fCall 1 F_is_recipe (faCons (fVar 5) faNil)))) (bT (fOp2 (seeB (eqD true)) (fCall 1 F_written (faCons (fVar 5) faNil)) (fVar 0))))
    (xRaise "ParseError")
    (xFl sNx))
    (xFl (sRetV 5))))))))))
def X_parse_recipe : FFX := runFX 7 1 bx_parse_recipe
section
variable {P : Program} {w : World} {K : PySem.W.Frag} {mg : Str → Option Value} {base : Heap}
theorem okX_parse_recipe (T : Tx K mg w) : FnOk P w K mg base (L2N.CX P w) 6 T.f_parse_recipe T.d_parse_recipe ["text"] (spX ⟨K, P, w⟩ mg 1 X_parse_recipe) := by
  have G_read_thing := ok_read_thing (P := P) (base := base) T
  have G_written := ok_written (P := P) (base := base) T
  have G_is_recipe := ok_is_recipe (P := P) (base := base) T
  have GX_read_step := okX_read_step (P := P) (base := base) T
  have GX_read_number := okX_read_number (P := P) (base := base) T
  have h : FnOk P w K mg base (L2N.CX P w) 6 T.f_parse_recipe T.d_parse_recipe ["text"] (spX ⟨K, P, w⟩ mg [("text" : Str)].length (runFX [("text" : Str), ("parts" : Str), ("things" : Str), ("steps" : Str), ("made" : Str), ("recipe" : Str), ("part" : Str)].length [("text" : Str)].length bx_parse_recipe)) := fn_piX (body := bx_parse_recipe) T.F_parse_recipe sc_parse_recipe fun cdv A outer s H E hr W tk =>
    (x_cons (x_ite (t_not (t_val (e_isi (T := "str") (kit_str _) (by rfl) T.z_isinstance (pa_cons (e_var (pv 0)) (pa_cons (pe_bltn (v := .ty "str") (by rfl) T.z_str (by decide +kernel) rfl) pa_nil)))))
    (x_one (s_raise T.g_ParseError (ps_raiseN rfl tk (pmk_ownN PySem.F.excBase_ValueError T.E_ParseError.xC T.g_ParseError T.E_ParseError.kC (raises_own T.E_ParseError.bC T.E_ParseError.tC) (by exact rfl)))))
    x_nil)
    (x_cons (s_xFl (s_set (ps_set (i := 1) sc_parse_recipe.nd rfl (Or.inl rfl) (e_mt md_split (pe_bm PySem.F.plainAttrs_str PySem.F.slot_str_split PySem.F.type_str_split mt_split (e_var (pv 0)) (a_cons (e_cst (pe_glob (v := .str "; ") (by rfl) T.g_PARTS ⟨_, rfl⟩) (fun _ => .str _)) a_nil))))))
    (x_cons (x_ite (t_cmp (op_neA hr.units) (RDs.do rd_neD') (e_len (pe_callB call_lenA (by rfl) T.z_len PySem.boot_len (a_cons (e_var (pv 1)) a_nil))) e_int (nomark _))
    (x_one (s_raise T.g_ParseError (ps_raiseN rfl tk (pmk_ownN PySem.F.excBase_ValueError T.E_ParseError.xC T.g_ParseError T.E_ParseError.kC (raises_own T.E_ParseError.bC T.E_ParseError.tC) (by exact rfl)))))
    x_nil)
    (x_cons (s_xFl (s_setLc (gd_name (i := 6)) (by decide) (ps_setLc (i := 2) (own := [("part", 6)]) rfl sc_parse_recipe.nd rfl rfl (sw_true rfl rfl rfl (by decide +kernel)) (i_lc (e_mt md_split (pe_bm PySem.F.plainAttrs_str PySem.F.slot_str_split PySem.F.type_str_split mt_split (e_ix ix_seq (RDs.do rd_ixD) (e_var (pv 1)) e_int (fun _ _ => rfl)) (a_cons (e_cst (pe_glob (v := .str ", ") (by rfl) T.g_ITEMS ⟨_, rfl⟩) (fun _ => .str _)) a_nil)))) (blkOk_by (own := [("part", 6)]) (N := ["text", "parts", "things", "steps", "made", "recipe", "part"]) (sc := defScope s_parse_recipe) (by decide +kernel)) (fun _ _ _ _ _ => (pg_name (i := 6) sc_parse_recipe.nd rfl (Or.inl rfl))) (fun _ _ _ _ _ => pts_yes) (fun _ _ _ _ _ => (e_call G_read_thing (hr.mono (by decide)) (by rfl) T.g_read_thing T.F_read_thing.kp T.b_read_thing (a_cons (e_var (pv 6)) a_nil))))))
    (x_cons (s_setLcX (i := 3) (own := [("part", 6)]) rfl rfl tk (gd_name (i := 6)) (by decide) rfl sc_parse_recipe.nd rfl rfl (sw_true rfl rfl rfl (by decide +kernel)) (i_lc (e_mt md_split (pe_bm PySem.F.plainAttrs_str PySem.F.slot_str_split PySem.F.type_str_split mt_split (e_ix ix_seq (RDs.do rd_ixD) (e_var (pv 1)) e_int (fun _ _ => rfl)) (a_cons (e_cst (pe_glob (v := .str ", ") (by rfl) T.g_ITEMS ⟨_, rfl⟩) (fun _ => .str _)) a_nil)))) (blkOk_by (own := [("part", 6)]) (N := ["text", "parts", "things", "steps", "made", "recipe", "part"]) (sc := defScope s_parse_recipe) (by decide +kernel)) (fun _ _ _ _ _ => (pg_name (i := 6) sc_parse_recipe.nd rfl (Or.inl rfl))) (fun _ _ _ _ _ => pts_yes) (fun _ _ _ _ _ _ _ hp => (e_callP hp GX_read_step (hr.mono (by decide)) (by rfl) T.g_read_step T.F_read_step.kp T.b_read_step (a_cons (e_var (pv 6)) a_nil))))
    (x_cons (s_setLcX (i := 4) (own := [("part", 6)]) rfl rfl tk (gd_name (i := 6)) (by decide) rfl sc_parse_recipe.nd rfl rfl (sw_true rfl rfl rfl (by decide +kernel)) (i_lc (e_mt md_split (pe_bm PySem.F.plainAttrs_str PySem.F.slot_str_split PySem.F.type_str_split mt_split (e_ix ix_seq (RDs.do rd_ixD) (e_var (pv 1)) e_int (fun _ _ => rfl)) (a_cons (e_cst (pe_glob (v := .str ", ") (by rfl) T.g_ITEMS ⟨_, rfl⟩) (fun _ => .str _)) a_nil)))) (blkOk_by (own := [("part", 6)]) (N := ["text", "parts", "things", "steps", "made", "recipe", "part"]) (sc := defScope s_parse_recipe) (by decide +kernel)) (fun _ _ _ _ _ => (pg_name (i := 6) sc_parse_recipe.nd rfl (Or.inl rfl))) (fun _ _ _ _ _ => pts_yes) (fun _ _ _ _ _ _ _ hp => (e_callP hp GX_read_number (hr.mono (by decide)) (by rfl) T.g_read_number T.F_read_number.kp T.b_read_number (a_cons (e_var (pv 6)) a_nil))))
    (x_cons (s_xFl (s_set (ps_set (i := 5) sc_parse_recipe.nd rfl (Or.inl rfl) (e_tup (a_cons (e_ty call_tuple_of cd_tup (by rfl) T.z_tuple (by decide +kernel) (a_cons (e_var (pv 2)) a_nil)) (a_cons (e_ty call_tuple_of cd_tup (by rfl) T.z_tuple (by decide +kernel) (a_cons (e_var (pv 3)) a_nil)) (a_cons (e_ty call_tuple_of cd_tup (by rfl) T.z_tuple (by decide +kernel) (a_cons (e_var (pv 4)) a_nil)) a_nil)))))))
    (x_cons (x_ite (PW.pt (w_or (t_not (t_val (e_call G_is_recipe hr (by rfl) T.g_is_recipe T.F_is_recipe.kp T.b_is_recipe (a_cons (e_var (pv 5)) a_nil)))) (pw_or1 (t_cmp (op_neA hr.units) (RDs.do rd_neD') (e_call G_written (hr.mono (by decide)) (by rfl) T.g_written T.F_written.kp T.b_written (a_cons (e_var (pv 5)) a_nil)) (e_var (pv 0)) (nomark _)))))
    (x_one (s_raise T.g_ParseError (ps_raiseN rfl tk (pmk_ownN PySem.F.excBase_ValueError T.E_ParseError.xC T.g_ParseError T.E_ParseError.kC (raises_own T.E_ParseError.bC T.E_ParseError.tC) (by exact rfl)))))
    x_nil)
    (b_xFl (b_one (s_retV (ps_ret (pv 5)))))))))))))
  exact h
end
def b_some_recipe : FS :=
    (sSeq (sAsg 3 (fBi (see1 tupG) (faCons (fLc (itRng1 (faCons (fOp2 addL (fC (.int 1)) (fCall 3 F_draw (faCons (fVar 0) (faCons (fVar 1) (faCons (fC (.int 3)) faNil))))) faNil)) (tgN 2) [2] tT (fCall 2 F_some_thing (faCons (fVar 0) (faCons (fVar 1) faNil)))) faNil)))
    (sSeq (sAsg 4 (fLst faNil))
    (sSeq (sFor (itRng1 (faCons (fOp2 addL (fC (.int 1)) (fCall 3 F_draw (faCons (fVar 0) (faCons (fVar 1) (faCons (fC (.int 5)) faNil))))) faNil)) (tgN 2) [2]
    (sApp 4 (fCall 4 F_some_step (faCons (fVar 0) (faCons (fVar 1) (faCons (lenS (faCons (fVar 3) faNil)) (faCons (lenS (faCons (fVar 4) faNil)) faNil)))))))
    (sSeq (sAsg 5 (fCall 4 F_some_of (faCons (fVar 0) (faCons (fVar 1) (faCons (fListRg (lenS (faCons (fVar 4) faNil))) (faCons (fCall 3 F_draw (faCons (fVar 0) (faCons (fVar 1) (faCons (fC (.int 2)) faNil)))) faNil))))))
    (sFrz [3, 4, 5] (sRet (fTup (faCons (fVar 3) (faCons (fBi (see1 tupG) (faCons (fVar 4) faNil)) (faCons (fBi (see1 tupG) (faCons (fSortI (faCons (fOp2 addL (fVar 5) (fTup (faCons (fOp2 (seeB subD) (lenS (faCons (fVar 4) faNil)) (fC (.int 1))) faNil))) faNil)) faNil)) faNil))))))))))
def F_some_recipe : FF := runF 6 2 b_some_recipe
section
variable {P : Program} {w : World} {K : PySem.W.Frag} {mg : Str → Option Value} {base : Heap}
theorem ok_some_recipe (T : Tx K mg w) : FnOk P w K mg base CX0 6 T.f__law_some_recipe T.d__law_some_recipe ["_law_script", "_law_state"] (spF ⟨K, P, w⟩ 2 F_some_recipe) := by
  have G_draw := ok_draw (P := P) (base := base) T
  have G_some_thing := ok_some_thing (P := P) (base := base) T
  have G_some_step := ok_some_step (P := P) (base := base) T
  have G_some_of := ok_some_of (P := P) (base := base) T
  have h : FnOk P w K mg base CX0 6 T.f__law_some_recipe T.d__law_some_recipe ["_law_script", "_law_state"] (spF ⟨K, P, w⟩ [("_law_script" : Str), ("_law_state" : Str)].length (runF [("_law_script" : Str), ("_law_state" : Str), ("_law_again" : Str), ("_law_things" : Str), ("_law_steps" : Str), ("_law_made" : Str)].length [("_law_script" : Str), ("_law_state" : Str)].length b_some_recipe)) := fn_pi (body := b_some_recipe) T.F__law_some_recipe sc_some_recipe fun cdv A outer s H E hr =>
    (b_cons (s_set (ps_set (i := 3) sc_some_recipe.nd rfl (Or.inl rfl) (e_ty call_tuple_of cd_tup (by rfl) T.z_tuple (by decide +kernel) (a_cons (e_lc (gd_name (i := 2)) (by decide) (pe_lc (own := [("_law_again", 2)]) rfl sc_some_recipe.nd (i_rng1 (pi_range1 (by rfl) T.z_range (a_cons (e_op op_addA rd_add2 e_int (e_call G_draw (hr.mono (by decide)) (by rfl) T.g__law_draw T.F__law_draw.kp T.b__law_draw (a_cons (e_var (pv 0)) (a_cons (e_var (pv 1)) (a_cons e_int a_nil))))) a_nil))) (blkOk_by (own := [("_law_again", 2)]) (N := ["_law_script", "_law_state", "_law_again", "_law_things", "_law_steps", "_law_made"]) (sc := defScope s_some_recipe) (by decide +kernel)) (fun _ _ _ _ _ => (pg_name (i := 2) sc_some_recipe.nd rfl (Or.inl rfl))) (fun _ _ _ _ _ => pts_yes) (fun _ _ _ _ _ => (e_call G_some_thing hr (by rfl) T.g__law_some_thing T.F__law_some_thing.kp T.b__law_some_thing (a_cons (e_var (pv 0)) (a_cons (e_var (pv 1)) a_nil)))))) a_nil))))
    (b_cons (s_set (ps_set (i := 4) sc_some_recipe.nd rfl (Or.inl rfl) (e_lst a_nil)))
    (b_cons (s_for (wp := [2]) (gd_name (i := 2)) (ps_for PassesOwn.never rfl (i_rng1 (pi_range1 (by rfl) T.z_range (a_cons (e_op op_addA rd_add2 e_int (e_call G_draw (hr.mono (by decide)) (by rfl) T.g__law_draw T.F__law_draw.kp T.b__law_draw (a_cons (e_var (pv 0)) (a_cons (e_var (pv 1)) (a_cons e_int a_nil))))) a_nil))) (pg_name (i := 2) sc_some_recipe.nd rfl (Or.inl rfl))
    (b_one (s_app (ps_expr (pe_bm PySem.F.plainAttrs_list PySem.F.slot_list_append PySem.F.type_list_append mt_append (pv 4) (pa_cons (e_call G_some_step hr (by rfl) T.g__law_some_step T.F__law_some_step.kp T.b__law_some_step (a_cons (e_var (pv 0)) (a_cons (e_var (pv 1)) (a_cons (e_len (pe_callB call_lenA (by rfl) T.z_len PySem.boot_len (a_cons (e_var (pv 3)) a_nil))) (a_cons (e_len (pe_callB call_lenA (by rfl) T.z_len PySem.boot_len (a_cons (e_var (pv 4)) a_nil))) a_nil))))) pa_nil)))))))
    (b_cons (s_set (ps_set (i := 5) sc_some_recipe.nd rfl (Or.inl rfl) (e_call G_some_of (hr.mono (by decide)) (by rfl) T.g__law_some_of T.F__law_some_of.kp T.b__law_some_of (a_cons (e_var (pv 0)) (a_cons (e_var (pv 1)) (a_cons (e_listRg (pe_listRg rfl (by rfl) T.z_list (prg_1 (by rfl) T.z_range (e_len (pe_callB call_lenA (by rfl) T.z_len PySem.boot_len (a_cons (e_var (pv 4)) a_nil)))))) (a_cons (e_call G_draw (hr.mono (by decide)) (by rfl) T.g__law_draw T.F__law_draw.kp T.b__law_draw (a_cons (e_var (pv 0)) (a_cons (e_var (pv 1)) (a_cons e_int a_nil)))) a_nil)))))))
    (b_one (s_frz (is := [3, 4, 5]) (s_retE (ps_ret (e_tup (a_cons (e_var (pv 3)) (a_cons (e_ty call_tuple_of cd_tup (by rfl) T.z_tuple (by decide +kernel) (a_cons (e_var (pv 4)) a_nil)) (a_cons (e_ty call_tuple_of cd_tup (by rfl) T.z_tuple (by decide +kernel) (a_cons (e_sortI (pe_callB (cr_sortedSet rfl) (by rfl) T.z_sorted (by decide +kernel) (pa_cons (pe_callTy (cr_setTupI rfl) (by rfl) T.z_set (by decide +kernel) (a_cons (e_op op_addA rd_add2 (e_var (pv 5)) (e_tup (a_cons (e_op op_sub (RDs.do rd_subD) (e_len (pe_callB call_lenA (by rfl) T.z_len PySem.boot_len (a_cons (e_var (pv 4)) a_nil))) e_int) a_nil))) a_nil)) pa_nil))) a_nil)) a_nil))))))))))))
  exact h
end
def b_format_recipe : FS :=
    (sSeq (sDrop (fCall 1 F_check_recipe (faCons (fVar 0) faNil)))
    (sRet (fCall 1 F_written (faCons (fVar 0) faNil))))
def F_format_recipe : FF := runF 1 1 b_format_recipe
section
variable {P : Program} {w : World} {K : PySem.W.Frag} {mg : Str → Option Value} {base : Heap}
theorem ok_format_recipe (T : Tx K mg w) : FnOk P w K mg base CX0 7 T.f_format_recipe T.d_format_recipe ["recipe"] (spF ⟨K, P, w⟩ 1 F_format_recipe) := by
  have G_check_recipe := ok_check_recipe (P := P) (base := base) T
  have G_written := ok_written (P := P) (base := base) T
  have h : FnOk P w K mg base CX0 7 T.f_format_recipe T.d_format_recipe ["recipe"] (spF ⟨K, P, w⟩ [("recipe" : Str)].length (runF [("recipe" : Str)].length [("recipe" : Str)].length b_format_recipe)) := fn_pi (body := b_format_recipe) T.F_format_recipe sc_format_recipe fun cdv A outer s H E hr =>
    (b_cons (s_drop (ps_expr (e_call G_check_recipe hr (by rfl) T.g_check_recipe T.F_check_recipe.kp T.b_check_recipe (a_cons (e_var (pv 0)) a_nil))))
    (b_one (s_retE (ps_ret (e_call G_written (hr.mono (by decide)) (by rfl) T.g_written T.F_written.kp T.b_written (a_cons (e_var (pv 0)) a_nil))))))
  exact h
end
def b_read : FS :=
    (sTry 1 (xRet (fCallX 1 X_parse_recipe (faCons (fVar 0) faNil))) gRaised)
def F_read : FF := runF 2 1 b_read
section
variable {P : Program} {w : World} {K : PySem.W.Frag} {mg : Str → Option Value} {base : Heap}
theorem ok_read (T : Tx K mg w) : FnOk P w K mg base CX0 7 T.f__law_read T.d__law_read ["_law_text"] (spF ⟨K, P, w⟩ 1 F_read) := by
  have h : FnOk P w K mg base CX0 7 T.f__law_read T.d__law_read ["_law_text"] (spF ⟨K, P, w⟩ [("_law_text" : Str)].length (runF [("_law_text" : Str), ("_law_e" : Str)].length [("_law_text" : Str)].length b_read)) := fn_pi (body := b_read) T.F__law_read sc_read fun cdv A outer s H E hr =>
    (b_one (s_try (i := 1) (told_of T) ((L2H.roomH_of hr).mono (by decide)) T.b__law_which (by rfl) T.g__law_which T.F__law_which.kp rfl rfl sc_read.nd rfl rfl ⟨rfl, by decide, Or.inl T.g_BuildError⟩ (fun _ _ _ => pv 1) (fun W pn xe tk => by have GX_parse_recipe := okX_parse_recipe (P := P) (base := base) T; exact (x_one (s_retX (ps_ret (e_callX tk GX_parse_recipe hr (by rfl) T.g_parse_recipe T.F_parse_recipe.kp T.b_parse_recipe (a_cons (e_var (pv 0)) a_nil))))))))
  exact h
end
def b_law : FS :=
    (sSeq (sAsg 2 (fCall 2 F_some_recipe (faCons (fVar 0) (faCons (fVar 1) faNil))))
    (sSeq (sAsg 3 (fCall 1 F_format_recipe (faCons (fVar 2) faNil)))
    (sSeq (sFor (itRng1 (faCons (fC (.int 6)) faNil)) (tgN 4) [4, 5, 6, 7, 8, 9]
    (sSeq (sAsg 5 (fCall 3 F_draw (faCons (fVar 0) (faCons (fVar 1) (faCons (lenS (faCons (fVar 3) faNil)) faNil)))))
    (sSeq (sAsg 6 (fCall 3 F_pick (faCons (fVar 0) (faCons (fVar 1) (faCons (fC (.str "0123ab;,| -ts")) faNil)))))
    (sSeq (sAsg 7 (fCall 3 F_draw (faCons (fVar 0) (faCons (fVar 1) (faCons (fC (.int 3)) faNil)))))
    (sSeq (sAsg 8 (fOp2 addL (fOp2 addL (fSl (fVar 3) oNone (oSome (fVar 5))) (fIf (bT (fOp2 (seeB (ordD .Lt)) (fVar 7) (fC (.int 2)))) (fVar 6) (fC (.str "")))) (fSl (fVar 3) (oSome (fOp2 addL (fVar 5) (fIf (bT (fOp2 (seeB (eqD true)) (fVar 7) (fC (.int 1)))) (fC (.int 1)) (fC (.int 0))))) oNone)))
    (sSeq (sAsg 9 (fCall 1 F_read (faCons (fVar 8) faNil)))
    (sIf (tAndF (bT (fOp2 (seeB (eqD true)) (fVar 9) (fTup (faCons (fC (.str "raised")) (faCons (fC (.int 14)) faNil))))) (tOrF (bT (fOp2 (seeB (isNoneD true)) (fCall 1 F_is_recipe (faCons (fVar 9) faNil)) (fC (.bool true)))) (bT (fOp2 (seeB (eqD true)) (fCall 1 F_format_recipe (faCons (fVar 9) faNil)) (fVar 8)))))
    (sRet (fC (.bool false)))
    sNx)))))))
    (sSeq (sAsg 10 (fLst (faCons (fC .none) (faCons (fC (.int 5)) (faCons (fC (.str "")) (faCons (fOp2 addL (fVar 3) (fC (.str "; 0"))) (faCons (fOp2 addL (fC (.str " ")) (fVar 3)) (faCons (fOp2 addL (fVar 3) (fC (.str " "))) (faCons (fOp2 addL (fVar 3) (fC (.str ", 0"))) (faCons (fRepl "; " ";" (fVar 3)) faNil))))))))))
    (sSeq (sExt 10 (fLst (faCons (fUp (fVar 3)) (faCons (fOp2 (seeB mulS) (fC (.str "9")) (fC (.int 4000))) (faCons (fOp2 addL (fVar 3) (fC (.str "
"))) faNil)))))
    (sSeq (sIf (bT (fOp2 (seeB (inSD false)) (fC (.str "t0")) (fVar 3)))
    (sExt 10 (fLst (faCons (fRepl "t0" "t00" (fVar 3)) (faCons (fRepl " t" "  t" (fVar 3)) (faCons (fRepl "t" "u" (fVar 3)) faNil)))))
    sNx)
    (sFrz [10] (sRet (fBi (see1 allG) (faCons (fLc (itSee (fVar 10)) (tgN 11) [11] tT (fOp2 (seeB (eqD false)) (fCall 1 F_read (faCons (fVar 11) faNil)) (fTup (faCons (fC (.str "raised")) (faCons (fC (.int 14)) faNil))))) faNil))))))))))
def lawE (ns : List Int) : Ev := (argsE 12 1 [.d (scriptD ns)]).set 1 (some .st)
section
variable {P : Program} {w : World} {K : PySem.W.Frag} {mg : Str → Option Value} {base : Heap}
theorem ok_law_of (hm : ∀ ns : List Int, ns.length ≤ 63 → ∃ e' n', b_law (lawE ns) 0 = some (.rt (.d (.bool true)), e', n')) (T : Tx K mg w) : FnOk P w K mg base CX0 8 T.f_law T.d_law ["_law_script"] (spLaw K) := by
  have G_some_recipe := ok_some_recipe (P := P) (base := base) T
  have G_format_recipe := ok_format_recipe (P := P) (base := base) T
  have G_draw := ok_draw (P := P) (base := base) T
  have G_pick := ok_pick (P := P) (base := base) T
  have G_read := ok_read (P := P) (base := base) T
  have G_is_recipe := ok_is_recipe (P := P) (base := base) T
  exact law_pi (body := b_law) (i := 1) T.F_law sc_law (by decide) (by decide) hm fun cdv A outer s H E hr =>
    (pss_cons (ps_set (i := 1) sc_law.nd rfl (Or.inl rfl) (pe_lst pa_nil))
    (b_cons (s_set (ps_set (i := 2) sc_law.nd rfl (Or.inl rfl) (e_call G_some_recipe (hr.mono (by decide)) (by rfl) T.g__law_some_recipe T.F__law_some_recipe.kp T.b__law_some_recipe (a_cons (e_var (pv 0)) (a_cons (e_var (pv 1)) a_nil)))))
    (b_cons (s_set (ps_set (i := 3) sc_law.nd rfl (Or.inl rfl) (e_call G_format_recipe hr (by rfl) T.g_format_recipe T.F_format_recipe.kp T.b_format_recipe (a_cons (e_var (pv 2)) a_nil))))
    (b_cons (s_for (wp := [4, 5, 6, 7, 8, 9]) (gd_name (i := 4)) (ps_for PassesOwn.never rfl (i_rng1 (pi_range1 (by rfl) T.z_range (a_cons e_int a_nil))) (pg_name (i := 4) sc_law.nd rfl (Or.inl rfl))
    (b_cons (s_set (ps_set (i := 5) sc_law.nd rfl (Or.inl rfl) (e_call G_draw (hr.mono (by decide)) (by rfl) T.g__law_draw T.F__law_draw.kp T.b__law_draw (a_cons (e_var (pv 0)) (a_cons (e_var (pv 1)) (a_cons (e_len (pe_callB call_lenA (by rfl) T.z_len PySem.boot_len (a_cons (e_var (pv 3)) a_nil))) a_nil))))))
    (b_cons (s_set (ps_set (i := 6) sc_law.nd rfl (Or.inl rfl) (e_call G_pick (hr.mono (by decide)) (by rfl) T.g__law_pick T.F__law_pick.kp T.b__law_pick (a_cons (e_var (pv 0)) (a_cons (e_var (pv 1)) (a_cons e_str a_nil))))))
    (b_cons (s_set (ps_set (i := 7) sc_law.nd rfl (Or.inl rfl) (e_call G_draw (hr.mono (by decide)) (by rfl) T.g__law_draw T.F__law_draw.kp T.b__law_draw (a_cons (e_var (pv 0)) (a_cons (e_var (pv 1)) (a_cons e_int a_nil))))))
    (b_cons (s_set (ps_set (i := 8) sc_law.nd rfl (Or.inl rfl) (e_op op_addA rd_add2 (e_op op_addA rd_add2 (e_sl (e_var (pv 3)) o_none (o_some (e_var (pv 5)))) (e_if (t_cmp (op_ord (.inl rfl) hr.units) (RDs.do rd_ord) (e_var (pv 7)) e_int (nomark _)) (e_var (pv 6)) e_str)) (e_sl (e_var (pv 3)) (o_some (e_op op_addA rd_add2 (e_var (pv 5)) (e_if (t_cmp (op_neA hr.units) (RDs.do rd_neD') (e_var (pv 7)) e_int (nomark _)) e_int e_int))) o_none))))
    (b_cons (s_set (ps_set (i := 9) sc_law.nd rfl (Or.inl rfl) (e_call G_read hr (by rfl) T.g__law_read T.F__law_read.kp T.b__law_read (a_cons (e_var (pv 8)) a_nil))))
    (b_one (s_ite (PW.pt (w_and (t_cmp (op_neA hr.units) (RDs.do rd_neD') (e_var (pv 9)) (e_tup (a_cons e_str (a_cons e_int a_nil))) (nomark _)) (pw_and1 (PW.pt (w_or (t_cmp op_isNotAll (RDs.do rd_isAll) (e_call G_is_recipe (hr.mono (by decide)) (by rfl) T.g_is_recipe T.F_is_recipe.kp T.b_is_recipe (a_cons (e_var (pv 9)) a_nil)) e_bl (nomark _)) (pw_or1 (t_cmp (op_neA hr.units) (RDs.do rd_neD') (e_call G_format_recipe hr (by rfl) T.g_format_recipe T.F_format_recipe.kp T.b_format_recipe (a_cons (e_var (pv 9)) a_nil)) (e_var (pv 8)) (nomark _))))))))
    (b_one (s_retE (ps_ret e_bl)))
    b_nil)))))))))
    (b_cons (s_set (ps_set (i := 10) sc_law.nd rfl (Or.inl rfl) (e_lst (a_cons e_non (a_cons e_int (a_strT (at_cons (et_of (e_op op_addA rd_add2 (e_var (pv 3)) e_str)) (at_cons (et_of (e_op op_addA rd_add2 e_str (e_var (pv 3)))) (at_cons (et_of (e_op op_addA rd_add2 (e_var (pv 3)) e_str)) (at_cons (et_of (e_op op_addA rd_add2 (e_var (pv 3)) e_str)) (at_cons (e_repl (pet_repl (by decide) (e_var (pv 3)))) at_nil)))))))))))
    (b_cons (s_ext (ps_expr (pe_bm PySem.F.plainAttrs_list PySem.F.slot_list_extend PySem.F.type_list_extend mt_extend (pv 10) (pa_cons (e_lst (a_cons (e_up (pe_upper (e_var (pv 3)))) (a_cons (e_op op_mulS (RDs.do rd_mulS) e_str e_int) (a_cons (e_op op_addA rd_add2 (e_var (pv 3)) e_str) a_nil)))) pa_nil))))
    (b_cons (s_ite1 (t1_cmp op_in_str (RDs.do rd_inS) pe1_str (e_var (pv 3)) (by rfl))
    (bT_one (s_extT (pst_expr (pet_bm PySem.F.plainAttrs_list PySem.F.slot_list_extend PySem.F.type_list_extend mt_extend (pv 10) (pat_one (et_lst (at_cons (e_repl (pet_repl (by decide) (e_var (pv 3)))) (at_cons (e_repl (pet_repl (by decide) (e_var (pv 3)))) (at_cons (e_repl (pet_repl (by decide) (e_var (pv 3)))) at_nil)))))))))
    b_nil)
    (b_one (s_frz (is := [10]) (s_retE (ps_ret (e_bi (cr_all rfl) cd_allA (by rfl) T.z_all (by decide +kernel) (a_cons (e_lc (gd_name (i := 11)) (by decide) (pe_lc (own := [("_law_one", 11)]) rfl sc_law.nd (i_lc (e_var (pv 10))) (blkOk_by (own := [("_law_one", 11)]) (N := ["_law_script", "_law_state", "_law_recipe", "_law_text", "_law_again", "_law_at", "_law_sign", "_law_kind", "_law_other", "_law_own", "_law_bad", "_law_one"]) (sc := defScope s_law) (by decide +kernel)) (fun _ _ _ _ _ => (pg_name (i := 11) sc_law.nd rfl (Or.inl rfl))) (fun _ _ _ _ _ => pts_yes) (fun _ _ _ _ _ => (e_cmp (op_eqA hr.units) (RDs.do rd_eqD') (e_call G_read hr (by rfl) T.g__law_read T.F__law_read.kp T.b__law_read (a_cons (e_var (pv 11)) a_nil)) (e_tup (a_cons e_str (a_cons e_int a_nil))) (nomark _))))) a_nil)))))))))))))
end
end Sb
namespace Sb
open PySem PySem.Spec PyProof.Rows L2
theorem ordLe_int (i j : Int) : ordD .LtE (.int i) (.int j) = some (.bool (decide (i ≤ j))) := by
  show some (PyData.bool (!PySem.W.dataLt (.int j) (.int i))) = _
  rw [PySem.W.dataLt_int]
  congr 2
  by_cases h : i ≤ j
  · rw [decide_eq_true h, decide_eq_false (by omega)]; rfl
  · rw [decide_eq_false h, decide_eq_true (by omega)]; rfl
theorem ordLt_int (i j : Int) : ordD .Lt (.int i) (.int j) = some (.bool (decide (i < j))) := by
  show some (PyData.bool (PySem.W.dataLt (.int i) (.int j))) = _
  rw [PySem.W.dataLt_int]
theorem ordGt_int (i j : Int) : ordD .Gt (.int i) (.int j) = some (.bool (decide (j < i))) := by
  show some (PyData.bool (PySem.W.dataLt (.int j) (.int i))) = _
  rw [PySem.W.dataLt_int]
theorem ordLt_str (x y : Str) : ordD .Lt (.str x) (.str y) = some (.bool (decide (x.cps.toList < y.cps.toList))) := by
  show some (PyData.bool (PySem.W.dataLt (.str x) (.str y))) = _
  rw [PySem.W.dataLt_str]
theorem ordGt_str (x y : Str) : ordD .Gt (.str x) (.str y) = some (.bool (decide (y.cps.toList < x.cps.toList))) := by
  show some (PyData.bool (PySem.W.dataLt (.str y) (.str x))) = _
  rw [PySem.W.dataLt_str]
/-! ### steps of what is evaluated -/
theorem and_ev {f g : FE} {e n n1 b} (h : f e n = some (.d (.bool b), n1)) : fAnd f g e n = if b = true then g e n1 else some (.d (.bool false), n1) := by
  simp only [fAnd, h]
theorem seqif {t : FT} {a b rest : FS} {e n n1 c} (h : t e n = some (c, n1)) : sSeq (sIf t a b) rest e n = if c = true then sSeq a rest e n1 else sSeq b rest e n1 := by
  cases c <;> simp [sSeq, sIf, h]
theorem ret_ev {f : FE} {e n x n1} (h : f e n = some (.d x, n1)) : sRet f e n = some (.rt (.d x), e, n1) := by
  simp [sRet, h, Sv.own]
theorem chain_le {fa fb fc : FE} {e n} {a b c : Int} (h1 : fa e n = some (.d (.int a), n)) (h2 : fb e n = some (.d (.int b), n)) (h3 : fc e n = some (.d (.int c), n)) :
    fChain (seeB (ordD .LtE)) (seeB (ordD .LtE)) fa fb fc e n = some (.d (.bool (decide (a ≤ b) && decide (b ≤ c))), n) := by
  simp only [fChain, h1, h2, seeB, Sv.see, ordLe_int]
  cases decide (a ≤ b) <;> simp [h3, seeB, Sv.see, ordLe_int]
theorem run_rt {N np : Nat} {body : FS} {as : List Sv} {n n' v e'} (hl : as.length = np) (h : body (argsE N np as) n = some (.rt v, e', n')) : runF N np body as n = some (v, n') := by
  simp [runF, hl, h]
theorem run_nx {N np : Nat} {body : FS} {as : List Sv} {n n' e'} (hl : as.length = np) (h : body (argsE N np as) n = some (.nx, e', n')) : runF N np body as n = some (.d .none, n') := by
  simp [runF, hl, h]
theorem set_back {e : Ev} {i : Nat} {o : Option Sv} (h : e[i]? = some none) : wipeE (e.set i o) [i] = e := by
  show (e.set i o).set i none = e
  rw [List.set_set]
  apply List.ext_getElem?
  intro j
  by_cases q : i = j
  · subst q
    have hl := (List.getElem?_eq_some_iff.mp h).1
    rw [List.getElem?_set_self hl, h]
  · rw [List.getElem?_set_ne q]
/-- a loop that goes out at the first item for which p is not -/
theorem loop_all {t : FT} {i : Nat} {e : Ev} {n : Nat} {r : PyData} {p : PyData → Bool} (hi : e[i]? = some none) : ∀ {xs : List PyData}, (∀ x ∈ xs, t (e.set i (some (.d x))) n = some (!p x, n)) →
    (xs.all p = true → forL (tgN i) [i] (sIf t (sRet (fC r)) sNx) xs e n = some (.nx, e, n)) ∧ (xs.all p = false → ∃ e', forL (tgN i) [i] (sIf t (sRet (fC r)) sNx) xs e n = some (.rt (.d r), e', n))
  | [], _ => ⟨fun _ => rfl, fun h => by cases h⟩
  | x :: xs, h => by
    have h0 := h x List.mem_cons_self
    have ih := loop_all (r := r) (p := p) hi (xs := xs) fun y hy => h y (List.mem_cons_of_mem _ hy)
    cases hp : p x with
    | true =>
      rw [hp] at h0
      rw [List.all_cons, hp, Bool.true_and]
      have e1 : forL (tgN i) [i] (sIf t (sRet (fC r)) sNx) (x :: xs) e n = forL (tgN i) [i] (sIf t (sRet (fC r)) sNx) xs e n := by
        simp only [forL, tgN, sIf, h0, Bool.not_true, sNx, set_back hi]
      rw [e1]
      exact ih
    | false =>
      rw [hp] at h0
      rw [List.all_cons, hp, Bool.false_and]
      refine ⟨fun z => (nomatch z), fun _ => ⟨e.set i (some (.d x)), ?_⟩⟩
      simp [forL, tgN, sIf, h0, sRet, fC, Sv.own]
/-- .. and then gives an answer -/
theorem for_all {it : FI} {t : FT} {i : Nat} {e : Ev} {n n1 : Nat} {r : PyData} {p : PyData → Bool} {xs : List PyData} {rest : FS} {v : PyData → Prop} (hi : e[i]? = some none) (hit : it e n = some (xs, n1)) (hl : xs.length ≤ big) (h : ∀ x ∈ xs, t (e.set i (some (.d x))) n1 = some (!p x, n1)) :
    (xs.all p = true → sSeq (sFor it (tgN i) [i] (sIf t (sRet (fC r)) sNx)) rest e n = rest e n1) ∧ (xs.all p = false → ∃ e', sSeq (sFor it (tgN i) [i] (sIf t (sRet (fC r)) sNx)) rest e n = some (.rt (.d r), e', n1)) := by
  obtain ⟨a1, a2⟩ := loop_all (r := r) (p := p) hi h
  refine ⟨fun ha => ?_, fun ha => ?_⟩
  · simp only [sSeq, sFor, hit, if_pos hl, a1 ha]
  · obtain ⟨e', z⟩ := a2 ha
    exact ⟨e', by simp only [sSeq, sFor, hit, if_pos hl, z]⟩
/-! ### a block gives an answer -/
def Gives (s : FS) (e : Ev) (n : Nat) (v : Sv) (n' : Nat) : Prop := ∃ e', s e n = some (.rt v, e', n')
theorem run_g {N np : Nat} {body : FS} {as : List Sv} {n n' v} (hl : as.length = np) (h : Gives body (argsE N np as) n v n') : runF N np body as n = some (v, n') := by
  obtain ⟨e', h⟩ := h
  exact run_rt hl h
theorem g_ret {f : FE} {e n x n1} (h : f e n = some (.d x, n1)) : Gives (sRet f) e n (.d x) n1 := ⟨_, ret_ev h⟩
theorem g_seq_if {t : FT} {a b rest : FS} {e n n1 c v n'} (h : t e n = some (c, n1)) (k1 : c = true → Gives (sSeq a rest) e n1 v n') (k2 : c = false → Gives (sSeq b rest) e n1 v n') : Gives (sSeq (sIf t a b) rest) e n v n' := by
  cases c with
  | true => obtain ⟨e', q⟩ := k1 rfl; exact ⟨e', (seqif h).trans q⟩
  | false => obtain ⟨e', q⟩ := k2 rfl; exact ⟨e', (seqif h).trans q⟩
theorem g_seq_ret {f : FE} {rest : FS} {e n x n1} (h : f e n = some (.d x, n1)) : Gives (sSeq (sRet f) rest) e n (.d x) n1 := ⟨e, by simp [sSeq, sRet, h, Sv.own]⟩
theorem g_nx {rest : FS} {e n v n'} (h : Gives rest e n v n') : Gives (sSeq sNx rest) e n v n' := h
theorem g_out {t : FT} {r : PyData} {rest : FS} {e n n1 c v n'} (h : t e n = some (c, n1)) (k1 : c = true → v = .d r ∧ n' = n1) (k2 : c = false → Gives rest e n1 v n') : Gives (sSeq (sIf t (sRet (fC r)) sNx) rest) e n v n' :=
  g_seq_if h (fun z => by obtain ⟨rfl, rfl⟩ := k1 z; exact g_seq_ret rfl) (fun z => g_nx (k2 z))
theorem g_set {i : Nat} {f : FE} {rest : FS} {e n sv n1 v n'} (h : f e n = some (sv, n1)) (ho : sv.own = true) (k : Gives rest (e.set i (some sv)) n1 v n') : Gives (sSeq (sAsg i f) rest) e n v n' := by
  obtain ⟨e', q⟩ := k
  exact ⟨e', by simp only [sSeq, sAsg, h, ho, if_pos]; exact q⟩
theorem g_setT {tg : FG} {f : FE} {rest : FS} {e n x n1 e1 v n'} (h : f e n = some (.d x, n1)) (ht : tg x e = some e1) (k : Gives rest e1 n1 v n') : Gives (sSeq (sAsgT tg f) rest) e n v n' := by
  obtain ⟨e', q⟩ := k
  exact ⟨e', by simp only [sSeq, sAsgT, h, Sv.take, ht]; exact q⟩
theorem g_frz {is : List Nat} {a : FS} {e n v n'} (k : Gives a (frzE e is) n v n') : Gives (sFrz is a) e n v n' := k
theorem g_drop {f : FE} {rest : FS} {e n sv n1 v n'} (h : f e n = some (sv, n1)) (k : Gives rest e n1 v n') : Gives (sSeq (sDrop f) rest) e n v n' := by
  obtain ⟨e', q⟩ := k
  exact ⟨e', by simp only [sSeq, sDrop, h]; exact q⟩
theorem g_all {it : FI} {t : FT} {i : Nat} {e : Ev} {n n1 n' : Nat} {r : PyData} {p : PyData → Bool} {xs : List PyData} {rest : FS} {v : Sv} (hi : e[i]? = some none) (hit : it e n = some (xs, n1)) (hl : xs.length ≤ big) (h : ∀ x ∈ xs, t (e.set i (some (.d x))) n1 = some (!p x, n1))
    (k1 : xs.all p = true → Gives rest e n1 v n') (k2 : xs.all p = false → v = .d r ∧ n' = n1) : Gives (sSeq (sFor it (tgN i) [i] (sIf t (sRet (fC r)) sNx)) rest) e n v n' := by
  obtain ⟨a1, a2⟩ := for_all (v := fun _ => True) (r := r) (p := p) (rest := rest) hi hit hl h
  cases q : xs.all p with
  | true => obtain ⟨e', z⟩ := k1 q; exact ⟨e', (a1 q).trans z⟩
  | false => obtain ⟨rfl, rfl⟩ := k2 q; exact a2 q
theorem m_is_number (d : PyData) (lo hi : Int) (n : Nat) : F_is_number [.d d, .d (.int lo), .d (.int hi)] n = some (.d (.bool (numD d lo hi)), n) := by
  refine run_rt rfl (ret_ev ?_)
  rw [and_ev (b := isInt d) rfl]
  cases d with
  | int i =>
    rw [if_pos (show isInt (.int i) = true from rfl), and_ev (b := true) rfl, if_pos rfl]
    exact chain_le rfl rfl rfl
  | _ => rfl
theorem m_is_tuple (d : PyData) (lo hi : Int) (n : Nat) : F_is_tuple [.d d, .d (.int lo), .d (.int hi)] n = some (.d (.bool (tupD d lo hi)), n) := by
  refine run_rt rfl (ret_ev ?_)
  rw [and_ev (b := isTup d) rfl]
  cases d with
  | tuple ds =>
    rw [if_pos (show isTup (.tuple ds) = true from rfl)]
    exact chain_le rfl rfl rfl
  | _ => rfl
theorem seq_ret_if {t : FT} {r : PyData} {rest : FS} {e n n1 c} (h : t e n = some (c, n1)) : sSeq (sIf t (sRet (fC r)) sNx) rest e n = if c = true then some (.rt (.d r), e, n1) else rest e n1 := by
  rw [seqif h]
  cases c <;> rfl
theorem notb {f : FE} {e n n1 b} (h : f e n = some (.d (.bool b), n1)) : tNotF (bT f) e n = some (!b, n1) := by
  simp [tNotF, bT, h]
theorem bt {f : FE} {e n n1 b} (h : f e n = some (.d (.bool b), n1)) : bT f e n = some (b, n1) := by
  simp [bT, h]
theorem or_t {f g : FT} {e n n1 b} (h : f e n = some (b, n1)) : tOrF f g e n = if b = true then some (true, n1) else g e n1 := by
  cases b <;> simp [tOrF, h]
theorem and_t {f g : FT} {e n n1 b} (h : f e n = some (b, n1)) : tAndF f g e n = if b = true then g e n1 else some (false, n1) := by
  cases b <;> simp [tAndF, h]
theorem cmp_ev {g : PyData → PyData → Option PyData} {fa fb : FE} {e n n1 n2} {a b z : PyData} (h1 : fa e n = some (.d a, n1)) (h2 : fb e n1 = some (.d b, n2)) (h3 : g a b = some z) : fOp2 (seeB g) fa fb e n = some (.d z, n2) := by
  simp [fOp2, h1, h2, seeB, Sv.see, h3]
theorem letter_lt (c k : Nat) : (decide (([c] : List Nat) < [k])) = decide (c < k) := by
  by_cases h : c < k
  · rw [decide_eq_true h, decide_eq_true (List.cons_lt_cons_iff.mpr (.inl h))]
  · rw [decide_eq_false h, decide_eq_false]
    intro z
    rcases List.cons_lt_cons_iff.mp z with z | ⟨_, z⟩
    · exact h z
    · exact absurd z (List.lt_irrefl _)
theorem m_is_text (d : PyData) (k : Int) (n : Nat) (hs : smD d = true) : F_is_text [.d d, .d (.int k)] n = some (.d (.bool (textD d k)), n) := by
  cases d with
  | str z =>
    have hz : z.length ≤ big := of_decide_eq_true hs
    have h1 : (tOrF (tNotF (bT (fIsi isStr (fVar 0)))) (bT (fOp2 (seeB (ordD .Gt)) (lenS (faCons (fVar 0) faNil)) (fVar 1)))) (argsE 3 2 [.d (.str z), .d (.int k)]) n = some (decide (k < (z.length : Int)), n) := by
      rw [or_t (b := false) rfl, if_neg Bool.false_ne_true]
      refine bt (cmp_ev (a := .int z.length) ?_ rfl (ordGt_int _ _))
      simp [lenS, faCons, fVar, argsE, faNil, Sv.arg, see1, Sv.see, lenG, hz]
    show runF 3 2 b_is_text _ _ = _
    have hall : ((signs z).map PyData.str).all (fun d => match d with
        | .str c => letterOk (c.cps.toList.headD 0)
        | _ => false) = z.cps.toList.all letterOk := by
      unfold signs
      rw [List.map_map, List.all_map]
      rfl
    refine run_g rfl (g_out h1 (fun z1 => ?_) (fun z1 => g_all (p := fun d => match d with
        | .str c => letterOk (c.cps.toList.headD 0)
        | _ => false) rfl rfl (by unfold signs; rw [List.length_map, List.length_map, Array.length_toList]; exact hz) (fun x hx => ?_) (fun ha => ?_) (fun ha => ?_)))
    · have hk := of_decide_eq_true z1
      have e1 : textD (.str z) k = false := by
        show (decide ((z.length : Int) ≤ k) && _) = false
        rw [decide_eq_false (by omega)]
        rfl
      rw [e1]
      exact ⟨rfl, rfl⟩
    · obtain ⟨c0, hc, rfl⟩ := List.mem_map.mp hx
      obtain ⟨c, _, rfl⟩ := List.mem_map.mp hc
      rw [or_t (bt (cmp_ev (a := .str ⟨#[c]⟩) (b := .str "a") rfl rfl (ordLt_str _ _)))]
      have l1 : decide ((⟨#[c]⟩ : Str).cps.toList < ("a" : Str).cps.toList) = decide (c < 97) := letter_lt c 97
      have l2 : decide (("z" : Str).cps.toList < (⟨#[c]⟩ : Str).cps.toList) = decide (122 < c) := letter_lt 122 c
      rw [l1]
      by_cases g : c < 97
      · rw [decide_eq_true g, if_pos rfl]
        show _ = some (!(decide (97 ≤ c) && decide (c ≤ 122)), n)
        rw [decide_eq_false (by omega : ¬ 97 ≤ c)]
        rfl
      · rw [decide_eq_false g, if_neg Bool.false_ne_true]
        refine (bt (cmp_ev (a := .str ⟨#[c]⟩) (b := .str "z") rfl rfl (ordGt_str _ _))).trans ?_
        rw [l2]
        show _ = some (!(decide (97 ≤ c) && decide (c ≤ 122)), n)
        rw [decide_eq_true (by omega : 97 ≤ c), Bool.true_and]
        by_cases g2 : 122 < c
        · rw [decide_eq_true g2, decide_eq_false (by omega : ¬ c ≤ 122)]; rfl
        · rw [decide_eq_false g2, decide_eq_true (by omega : c ≤ 122)]; rfl
    · rw [hall] at ha
      have hk := of_decide_eq_false z1
      have e1 : textD (.str z) k = true := by
        show (decide ((z.length : Int) ≤ k) && z.cps.toList.all letterOk) = true
        rw [decide_eq_true (by omega), ha]
        rfl
      rw [e1]
      exact g_ret rfl
    · rw [hall] at ha
      have e1 : textD (.str z) k = false := by
        show (_ && z.cps.toList.all letterOk) = false
        rw [ha, Bool.and_false]
      rw [e1]
      exact ⟨rfl, rfl⟩
  | _ => rfl
/-! ascending -/
theorem len_ev {f : FE} {e n n1} {x : PyData} {r : Sv} (h : f e n = some (.d x, n1)) (g : lenG x = some r) : lenS (faCons f faNil) e n = some (r, n1) := by
  simp [lenS, faCons, h, faNil, Sv.arg, see1, Sv.see, g]
theorem int_ix {ds : List PyData} {d x : PyData} (hd : d = .tuple ds ∨ d = .list ds) {j : Nat} (h : ds[j]? = some x) : ixD d (.int (j : Int)) = some x := by
  rcases hd with rfl | rfl <;> exact atI_nat h
theorem asc_iff : ∀ {ds : List PyData}, ascD ds = true ↔ ∀ (j : Nat) (x y : PyData), ds[j]? = some x → ds[j + 1]? = some y → ltD x y = true := fun {ds} =>
  ⟨fun h j x y h1 h2 => asc_at h h1 h2, fun h => asc_of h⟩
theorem m_is_ascending {d : PyData} {ds : List PyData} (hd : d = .tuple ds ∨ d = .list ds) (n : Nat) (hl : ds.length ≤ big) (hc : ∀ x ∈ ds, ∀ y ∈ ds, cmpOk x y) : F_is_ascending [.d d] n = some (.d (.bool (ascD ds)), n) := by
  have hlen : lenG d = some (.d (.int ds.length)) := by rcases hd with rfl | rfl <;> rfl
  have hit : itRng2 (faCons (fC (.int 1)) (faCons (lenS (faCons (fVar 0) faNil)) faNil)) (argsE 2 1 [.d d]) n = some (intsUp 1 (((ds.length : Int) - 1).toNat), n) := by
    have h1 : lenS (faCons (fVar 0) faNil) (argsE 2 1 [.d d]) n = some (.d (.int ds.length), n) := len_ev rfl hlen
    have hb : smallI (ds.length : Int) = true := by
      unfold smallI
      have : (big : Int) = 100000 := rfl
      rw [decide_eq_true (by omega), decide_eq_true (by omega)]
      rfl
    have h0 : smallI 1 = true := by decide
    simp [itRng2, faCons, h1, fC, faNil, Sv.arg, h0, hb]
  let p : PyData → Bool := fun a => match a with
    | .int i => (match ds[(i - 1).toNat]?, ds[i.toNat]? with
      | some x, some y => ltD x y
      | _, _ => true)
    | _ => true
  have hp : (intsUp 1 (((ds.length : Int) - 1).toNat)).all p = ascD ds := by
    apply Bool.eq_iff_iff.mpr
    rw [asc_iff, List.all_eq_true]
    unfold intsUp
    constructor
    · intro h j x y h1 h2
      have hj := (List.getElem?_eq_some_iff.mp h2).1
      have := h (.int (1 + (j : Int))) (List.mem_map.mpr ⟨j, List.mem_range.mpr (by omega), rfl⟩)
      have t1 : ((1 : Int) + (j : Int) - 1).toNat = j := by omega
      have t2 : ((1 : Int) + (j : Int)).toNat = j + 1 := by omega
      simp only [p, t1, t2, h1, h2] at this
      exact this
    · intro h a ha
      obtain ⟨j, hj, rfl⟩ := List.mem_map.mp ha
      have hj := List.mem_range.mp hj
      have t1 : ((1 : Int) + (j : Int) - 1).toNat = j := by omega
      have t2 : ((1 : Int) + (j : Int)).toNat = j + 1 := by omega
      have h1 : ds[j]? = some ds[j] := List.getElem?_eq_getElem (by omega)
      have h2 : ds[j + 1]? = some ds[j + 1] := List.getElem?_eq_getElem (by omega)
      simp only [p, t1, t2, h1, h2]
      exact h j _ _ h1 h2
  refine run_g rfl (g_all (p := p) rfl hit (by unfold intsUp; rw [List.length_map, List.length_range]; have : (big : Int) = 100000 := rfl; omega) (fun a ha => ?_) (fun ha => ?_) (fun ha => ?_))
  · unfold intsUp at ha
    obtain ⟨j, hj, rfl⟩ := List.mem_map.mp ha
    have hj := List.mem_range.mp hj
    have t0 : (1 : Int) + (j : Int) - 1 = (j : Int) := by omega
    have t1 : ((1 : Int) + (j : Int) - 1).toNat = j := by omega
    have t2 : ((1 : Int) + (j : Int)).toNat = j + 1 := by omega
    have t3 : (1 : Int) + (j : Int) = ((j + 1 : Nat) : Int) := by omega
    have h1 : ds[j]? = some ds[j] := List.getElem?_eq_getElem (by omega)
    have h2 : ds[j + 1]? = some ds[j + 1] := List.getElem?_eq_getElem (by omega)
    obtain ⟨c1, c2, c3, c4⟩ := cmp_data (hc _ (List.getElem_mem (by omega : j < ds.length)) _ (List.getElem_mem (by omega : j + 1 < ds.length)))
    have ho : ordD .GtE ds[j] ds[j + 1] = some (.bool (!ltD ds[j] ds[j + 1])) := by
      unfold ordD ordOk
      have c5 : nonD ds[j] = false := by
        cases q : ds[j] with
        | none => exact absurd q c2
        | _ => rfl
      rw [c1, c5, decide_eq_true (by omega), if_pos (show (true && !false && true) = true from rfl)]
      show some (PyData.bool (!PySem.W.dataLt ds[j] ds[j + 1])) = _
      rw [c4]
    refine (bt (cmp_ev (a := ds[j]) (b := ds[j + 1]) (cmp_ev (a := d) (b := .int (j : Int)) rfl (cmp_ev (a := .int (1 + (j : Int))) (b := .int 1) rfl rfl (show subD (.int (1 + (j : Int))) (.int 1) = some (.int (j : Int)) from by show some (PyData.int (1 + (j : Int) - 1)) = _; rw [t0])) (int_ix hd h1)) (cmp_ev (a := d) (b := .int ((j + 1 : Nat) : Int)) rfl (by rw [← t3]; rfl) (int_ix hd h2)) ho)).trans ?_
    simp only [p, t1, t2, h1, h2]
  · rw [← hp, ha]
    exact g_ret rfl
  · rw [← hp, ha]
    exact ⟨rfl, rfl⟩
theorem call_ev {F : FF} {fa : FA} {np : Nat} {e n n1 as r} (h : fa e n = some (as, n1)) (hl : as.length = np) (hF : F as n1 = r) : fCall np F fa e n = r := by
  simp [fCall, h, hl, hF]
theorem smDs_mem {ds : List PyData} (h : smDs ds = true) : ∀ x ∈ ds, smD x = true := fun x hx => by
  obtain ⟨i, hi⟩ := List.getElem?_of_mem hx
  exact smDs_get h hi
theorem cmp_text {x y : PyData} {k k' : Int} (h1 : textD x k = true) (h2 : textD y k' = true) : cmpOk x y := by
  cases x <;> cases y <;> first | trivial | cases h1 | cases h2
theorem tup_mem {d : PyData} {lo hi : Int} (h : tupD d lo hi = true) : ∃ ds, d = .tuple ds ∧ lo ≤ (ds.length : Int) ∧ (ds.length : Int) ≤ hi := by
  cases d with
  | tuple ds =>
    unfold tupD at h
    rw [Bool.and_eq_true, decide_eq_true_eq, decide_eq_true_eq] at h
    exact ⟨ds, rfl, h.1, h.2⟩
  | _ => cases h
/-- if not is_tuple(..): return False -/
theorem g_tup {fa : FA} {rest : FS} {e n d} {lo hi : Int} {v n'} (h : fa e n = some ([.d d, .d (.int lo), .d (.int hi)], n)) (k1 : tupD d lo hi = false → v = .d (.bool false) ∧ n' = n) (k2 : ∀ ds, d = .tuple ds → lo ≤ (ds.length : Int) → (ds.length : Int) ≤ hi → Gives rest e n v n') :
    Gives (sSeq (sIf (tNotF (bT (fCall 3 F_is_tuple fa))) (sRet (fC (.bool false))) sNx) rest) e n v n' :=
  g_out (notb (call_ev h rfl (m_is_tuple d lo hi n))) (fun z => k1 (by simpa using z)) (fun z => by
    obtain ⟨ds, e1, e2, e3⟩ := tup_mem (d := d) (lo := lo) (hi := hi) (by simpa using z)
    exact k2 ds e1 e2 e3)
theorem tup_yes {ds : List PyData} {lo hi : Int} (h1 : lo ≤ (ds.length : Int)) (h2 : (ds.length : Int) ≤ hi) : tupD (.tuple ds) lo hi = true := by
  show (decide _ && decide _) = true
  rw [decide_eq_true h1, decide_eq_true h2]
  rfl
theorem bigI : (big : Int) = 100000 := rfl
theorem m_is_thing (d : PyData) (n : Nat) (hs : smD d = true) : F_is_thing [.d d] n = some (.d (.bool (thingD d)), n) := by
  refine run_g rfl (g_tup (d := d) (lo := 1) (hi := 4) rfl (fun ht => ?_) (fun ds e1 l1 l2 => ?_))
  · unfold thingD
    rw [ht]
    exact ⟨rfl, rfl⟩
  · subst e1
    have hm := smDs_mem (ds := ds) hs
    have e1 : thingD (.tuple ds) = (ds.all (fun x => textD x 4) && ascD ds) := by
      show (tupD (.tuple ds) 1 4 && ds.all (fun x => textD x 4) && ascD ds) = _
      rw [tup_yes l1 l2]
      rfl
    have hb := bigI
    refine g_all (p := fun x => textD x 4) rfl rfl (by omega) (fun x hx => notb (call_ev rfl rfl (m_is_text x 4 n (hm x hx)))) (fun ha => ?_) (fun ha => ?_)
    · rw [e1, ha]
      refine g_ret (call_ev rfl rfl (m_is_ascending (.inl rfl) n (by omega) fun x hx y hy => cmp_text (List.all_eq_true.mp ha x hx) (List.all_eq_true.mp ha y hy)))
    · rw [e1, ha]
      exact ⟨rfl, rfl⟩
/-! a loop that carries something -/
theorem loop_fold {A : Type} {tg : FG} {wp : List Nat} {body : FS} {n : Nat} {r : Sv} (E : A → Ev) (g : A → PyData → A) (p : PyData → Bool) : ∀ (xs : List PyData) (a : A),
    (∀ x ∈ xs, ∀ a, ∃ e1, tg x (E a) = some e1 ∧ (p x = true → ∃ e2, body e1 n = some (.nx, e2, n) ∧ wipeE e2 wp = E (g a x)) ∧ (p x = false → ∃ e2, body e1 n = some (.rt r, e2, n))) →
    (xs.all p = true → forL tg wp body xs (E a) n = some (.nx, E (xs.foldl g a), n)) ∧ (xs.all p = false → ∃ e', forL tg wp body xs (E a) n = some (.rt r, e', n))
  | [], a, _ => ⟨fun _ => rfl, fun h => by cases h⟩
  | x :: xs, a, h => by
    obtain ⟨e1, t1, h1, h2⟩ := h x List.mem_cons_self a
    cases hp : p x with
    | true =>
      obtain ⟨e2, b2, w2⟩ := h1 hp
      have ih := loop_fold E g p xs (g a x) fun y hy => h y (List.mem_cons_of_mem _ hy)
      have e0 : forL tg wp body (x :: xs) (E a) n = forL tg wp body xs (E (g a x)) n := by
        simp only [forL, t1, b2, w2]
      rw [List.all_cons, hp, Bool.true_and, e0, List.foldl_cons]
      exact ih
    | false =>
      obtain ⟨e2, b2⟩ := h2 hp
      rw [List.all_cons, hp, Bool.false_and]
      exact ⟨fun z => (nomatch z), fun _ => ⟨e2, by simp only [forL, t1, b2]⟩⟩
theorem g_fold {A : Type} {it : FI} {tg : FG} {wp : List Nat} {body rest : FS} {e : Ev} {n n1 n' : Nat} {r v : Sv} {xs : List PyData} (E : A → Ev) (g : A → PyData → A) (p : PyData → Bool) (a : A) (hit : it e n = some (xs, n1)) (hl : xs.length ≤ big) (he : e = E a)
    (h : ∀ x ∈ xs, ∀ a, ∃ e1, tg x (E a) = some e1 ∧ (p x = true → ∃ e2, body e1 n1 = some (.nx, e2, n1) ∧ wipeE e2 wp = E (g a x)) ∧ (p x = false → ∃ e2, body e1 n1 = some (.rt r, e2, n1)))
    (k1 : xs.all p = true → Gives rest (E (xs.foldl g a)) n1 v n') (k2 : xs.all p = false → v = r ∧ n' = n1) : Gives (sSeq (sFor it tg wp body) rest) e n v n' := by
  obtain ⟨a1, a2⟩ := loop_fold E g p xs a h
  subst he
  cases q : xs.all p with
  | true =>
    obtain ⟨e', z⟩ := k1 q
    exact ⟨e', by simp only [sSeq, sFor, hit, if_pos hl, a1 q]; exact z⟩
  | false =>
    obtain ⟨rfl, rfl⟩ := k2 q
    obtain ⟨e', z⟩ := a2 q
    exact ⟨e', by simp only [sSeq, sFor, hit, if_pos hl, z]⟩
/-! ### things, readings, steps, made, recipes -/
theorem mul_ev {fa fb : FE} {e n} {a b : Int} (h1 : fa e n = some (.d (.int a), n)) (h2 : fb e n = some (.d (.int b), n)) (hb : -(2 ^ 64) < b ∧ b < 2 ^ 64) : fOp2 (seeB mulD) fa fb e n = some (.d (.int (a * b)), n) := by
  refine cmp_ev h1 h2 ?_
  unfold mulD
  exact if_pos (.inr hb)
theorem tlen {ds : List PyData} : lenG (.tuple ds) = some (.d (.int ds.length)) := rfl
def wid (d : PyData) : Int := ((seqD d).length : Int)
theorem prod_fold : ∀ (ds : List PyData) (m : Int), ds.foldl (fun a d => a * wid d) m = m * (prodD ds : Int)
  | [], m => by rw [List.foldl_nil, prodD]; omega
  | d :: ds, m => by
    rw [List.foldl_cons, prod_fold ds, prodD, Int.natCast_mul, ← Int.mul_assoc]
    rfl
theorem m_are_things (d : PyData) (n : Nat) (hs : smD d = true) : F_are_things [.d d] n = some (.d (.bool (thingsD d)), n) := by
  refine run_g rfl (g_tup (d := d) (lo := 1) (hi := 5) rfl (fun ht => ?_) (fun ds e1 l1 l2 => ?_))
  · unfold thingsD
    rw [ht]
    exact ⟨rfl, rfl⟩
  · subst e1
    have hm := smDs_mem (ds := ds) hs
    have hb := bigI
    have e1 : thingsD (.tuple ds) = (ds.all thingD && decide (prodD ds ≤ 256)) := by
      show (tupD (.tuple ds) 1 5 && ds.all thingD && decide (prodD ds ≤ 256)) = _
      rw [tup_yes l1 l2]
      rfl
    rw [e1]
    refine g_set (sv := .d (.int 1)) rfl rfl (g_fold (r := .d (.bool false)) (fun m : Int => [some (.d (.tuple ds)), some (.d (.int m)), none]) (fun m x => m * wid x) thingD 1 (xs := ds) (n1 := n) rfl (by omega) rfl (fun x hx m => ⟨[some (.d (.tuple ds)), some (.d (.int m)), some (.d x)], rfl, fun hp => ?_, fun hp => ?_⟩) (fun ha => ?_) (fun ha => ?_))
    · have h0 := notb (call_ev (fa := faCons (fVar 2) faNil) (e := [some (.d (.tuple ds)), some (.d (.int m)), some (.d x)]) (np := 1) rfl rfl (m_is_thing x n (hm x hx)))
      rw [hp] at h0
      obtain ⟨es, ex, _, l4⟩ := tup_mem (d := x) (lo := 1) (hi := 4) (by
        unfold thingD at hp
        rw [Bool.and_eq_true, Bool.and_eq_true] at hp
        exact hp.1.1)
      subst ex
      have q := mul_ev (fa := fVar 1) (fb := lenS (faCons (fVar 2) faNil)) (e := [some (.d (.tuple ds)), some (.d (.int m)), some (.d (.tuple es))]) (n := n) (a := m) (b := es.length) rfl (len_ev rfl tlen) (by omega)
      refine ⟨[some (.d (.tuple ds)), some (.d (.int (m * es.length))), some (.d (.tuple es))], ((seq_ret_if h0).trans (if_neg Bool.false_ne_true)).trans ?_, rfl⟩
      simp only [sAsg, q, Sv.own, if_pos]
      rfl
    · have h0 := notb (call_ev (fa := faCons (fVar 2) faNil) (e := [some (.d (.tuple ds)), some (.d (.int m)), some (.d x)]) (np := 1) rfl rfl (m_is_thing x n (hm x hx)))
      rw [hp] at h0
      exact ⟨_, (seq_ret_if h0).trans (if_pos rfl)⟩
    · rw [ha, prod_fold, Int.one_mul, Bool.true_and, show decide (prodD ds ≤ 256) = decide ((prodD ds : Int) ≤ 256) from decide_eq_decide.mpr (by omega)]
      exact g_frz (g_ret (cmp_ev (a := .int (prodD ds : Nat)) (b := .int 256) rfl rfl (ordLe_int _ _)))
    · rw [ha]
      exact ⟨rfl, rfl⟩
theorem eq_str (x y : Str) : eqD false (.str x) (.str y) = some (.bool (decide (x = y))) := by
  show some (PyData.bool (decide (x = y) != false)) = _
  rw [Bool.bne_false]
theorem reading_no {d : PyData} {m s : Int} (h : tupD d 2 2 = false) : readingD d m s = false := by
  unfold readingD
  split
  · cases h
  · rfl
theorem m_is_reading (d : PyData) (m st : Int) (n : Nat) : F_is_reading [.d d, .d (.int m), .d (.int st)] n = some (.d (.bool (readingD d m st)), n) := by
  refine run_g rfl (g_tup (d := d) (lo := 2) (hi := 2) rfl (fun ht => ?_) (fun ds e1 l1 l2 => ?_))
  · rw [reading_no ht]
    exact ⟨rfl, rfl⟩
  · subst e1
    match ds, l1, l2 with
    | [w, x], _, _ =>
      refine g_setT (x := .tuple [w, x]) rfl rfl (g_out (c := !isStr w) (notb rfl) (fun z => ?_) (fun z => ?_))
      · cases w <;> first | exact ⟨rfl, rfl⟩ | cases z
      · cases w with
        | str w =>
          refine g_seq_if (c := decide (w = ("thing" : Str))) (bt (cmp_ev (a := .str w) (b := .str "thing") rfl rfl (eq_str w "thing"))) (fun hw => ?_) (fun hw => ?_)
          · have hw := of_decide_eq_true hw
            have e1 : readingD (.tuple [.str w, x]) m st = numD x 0 (m - 1) := if_pos hw
            rw [e1]
            exact g_seq_ret (call_ev (as := [.d x, .d (.int 0), .d (.int (m - 1))]) rfl rfl (m_is_number x 0 (m - 1) n))
          · have hw : w ≠ ("thing" : Str) := of_decide_eq_false hw
            have e1 : readingD (.tuple [.str w, x]) m st = (decide (w = ("step" : Str)) && numD x 0 (st - 1)) := if_neg hw
            rw [e1]
            refine g_nx (g_ret ?_)
            rw [and_ev (cmp_ev (a := .str w) (b := .str "step") rfl rfl (eq_str w "step"))]
            by_cases hs : w = ("step" : Str)
            · rw [decide_eq_true hs, if_pos rfl]
              exact call_ev (as := [.d x, .d (.int 0), .d (.int (st - 1))]) rfl rfl (m_is_number x 0 (st - 1) n)
            · rw [decide_eq_false hs, if_neg Bool.false_ne_true]
              rfl
        | _ => cases z
theorem step_no {d : PyData} {m s : Int} (h : tupD d 2 2 = false) : stepD d m s = false := by
  unfold stepD
  split
  · cases h
  · rfl
theorem m_is_step (d : PyData) (m st : Int) (n : Nat) : F_is_step [.d d, .d (.int m), .d (.int st)] n = some (.d (.bool (stepD d m st)), n) := by
  refine run_g rfl (g_tup (d := d) (lo := 2) (hi := 2) rfl (fun ht => ?_) (fun ds e1 l1 l2 => ?_))
  · rw [step_no ht]
    exact ⟨rfl, rfl⟩
  · subst e1
    match ds, l1, l2 with
    | [o, rs], _, _ =>
      refine g_setT (x := .tuple [o, rs]) rfl rfl ?_
      cases o with
      | str o =>
        have ht : tOrF (tNotF (bT (fIsi isStr (fVar 3)))) (bT (fInM true mREADINGS (fVar 3))) [some (.d (.tuple [.str o, rs])), some (.d (.int m)), some (.d (.int st)), some (.d (.str o)), some (.d rs), none] n = some (!(lookM mREADINGS o).isSome, n) := by
          rw [or_t (b := false) rfl, if_neg Bool.false_ne_true]
          refine bt ?_
          show some (Sv.d (PyData.bool ((lookM mREADINGS o).isSome != true)), n) = _
          rw [Bool.bne_true]
        have e0 : stepD (.tuple [.str o, rs]) m st = (match lookM mREADINGS o with
          | some k => tupD rs k k && (seqD rs).all (fun x => readingD x m st)
          | none => false) := rfl
        refine g_out (c := !(lookM mREADINGS o).isSome) ht (fun z => ?_) (fun z => ?_)
        · rw [e0]
          cases q : lookM mREADINGS o with
          | none => exact ⟨rfl, rfl⟩
          | some k => rw [q] at z; cases z
        · cases q : lookM mREADINGS o with
          | none => rw [q] at z; cases z
          | some k =>
            rw [e0, q]
            dsimp only
            have hix : fIxM mREADINGS (fVar 3) [some (.d (.tuple [.str o, rs])), some (.d (.int m)), some (.d (.int st)), some (.d (.str o)), some (.d rs), none] n = some (.d (.int k), n) := by
              show (match lookM mREADINGS o with
                | some i => some (Sv.d (.int i), n)
                | none => none) = _
              rw [q]
            have hargs : faCons (fVar 4) (faCons (fIxM mREADINGS (fVar 3)) (faCons (fIxM mREADINGS (fVar 3)) faNil)) [some (.d (.tuple [.str o, rs])), some (.d (.int m)), some (.d (.int st)), some (.d (.str o)), some (.d rs), none] n = some ([.d rs, .d (.int k), .d (.int k)], n) := by
              have h4 : fVar 4 [some (.d (.tuple [.str o, rs])), some (.d (.int m)), some (.d (.int st)), some (.d (.str o)), some (.d rs), none] n = some (.d rs, n) := rfl
              simp [faCons, hix, h4, faNil, Sv.arg]
            refine g_tup (d := rs) (lo := k) (hi := k) hargs (fun ht => ?_) (fun es e1 l1 l2 => ?_)
            · rw [ht]
              exact ⟨rfl, rfl⟩
            · subst e1
              have k3 : k ≤ 3 := by
                have : ∀ p ∈ mREADINGS, p.2 ≤ 3 := by decide
                have gen : ∀ (l : List (Str × Int)), lookM l o = some k → ∃ p ∈ l, p.2 = k := by
                  intro l
                  induction l with
                  | nil => intro h; cases h
                  | cons p l ih =>
                    obtain ⟨y, i⟩ := p
                    intro h
                    unfold lookM at h
                    split at h
                    · cases h; exact ⟨(y, k), List.mem_cons_self, rfl⟩
                    · obtain ⟨p, hp, e⟩ := ih h; exact ⟨p, List.mem_cons_of_mem _ hp, e⟩
                obtain ⟨p, hp, e⟩ := gen mREADINGS q
                rw [← e]
                exact this p hp
              have hb := bigI
              rw [tup_yes l1 l2, Bool.true_and]
              refine g_all (p := fun x => readingD x m st) (xs := es) rfl rfl (by omega) (fun x hx => notb (call_ev (as := [.d x, .d (.int m), .d (.int st)]) rfl rfl (m_is_reading x m st n))) (fun ha => ?_) (fun ha => ?_)
              · show Gives _ _ _ (.d (.bool (es.all fun x => readingD x m st))) _
                rw [ha]
                exact g_ret rfl
              · show Sv.d (.bool (es.all fun x => readingD x m st)) = _ ∧ _
                rw [ha]
                exact ⟨rfl, rfl⟩
      | _ => exact g_out (c := true) rfl (fun _ => ⟨rfl, rfl⟩) (fun z => nomatch z)
theorem stepsAll_iff : ∀ {ds : List PyData} {m : Int} {s : Nat}, stepsAllD ds m s = (List.range ds.length).all fun j => stepD (ds.getD j .none) m ((s + j : Nat) : Int)
  | [], _, _ => rfl
  | d :: ds, m, s => by
    rw [stepsAllD, stepsAll_iff, List.length_cons, List.range_succ_eq_map, List.all_cons, List.all_map]
    congr 1
    congr 1
    funext j
    show stepD (ds.getD j .none) m ((s + 1 + j : Nat) : Int) = stepD (ds.getD j .none) m ((s + (j + 1) : Nat) : Int)
    rw [show s + 1 + j = s + (j + 1) by omega]
theorem m_are_steps (d : PyData) (m : Int) (n : Nat) : F_are_steps [.d d, .d (.int m)] n = some (.d (.bool (stepsD d m)), n) := by
  refine run_g rfl (g_tup (d := d) (lo := 1) (hi := 8) rfl (fun ht => ?_) (fun ds e1 l1 l2 => ?_))
  · unfold stepsD
    rw [ht]
    exact ⟨rfl, rfl⟩
  · subst e1
    have hb := bigI
    have e1 : stepsD (.tuple ds) m = stepsAllD ds m 0 := by
      show (tupD (.tuple ds) 1 8 && stepsAllD ds m 0) = _
      rw [tup_yes l1 l2]
      rfl
    have hit : itRng1 (faCons (lenS (faCons (fVar 0) faNil)) faNil) (argsE 3 2 [.d (.tuple ds), .d (.int m)]) n = some (intsUp 0 ds.length, n) := by
      have hs : smallI (ds.length : Int) = true := by
        unfold smallI
        rw [decide_eq_true (by omega), decide_eq_true (by omega)]
        rfl
      show (if smallI (ds.length : Int) = true then some (intsUp 0 ((ds.length : Int)).toNat, n) else none) = _
      rw [if_pos hs]
      rfl
    let p : PyData → Bool := fun a => match a with
      | .int i => stepD (ds.getD i.toNat .none) m i
      | _ => true
    have pj : ∀ j : Nat, p (.int (j : Int)) = stepD (ds.getD j .none) m (j : Int) := fun j => by
      show stepD (ds.getD ((j : Int)).toNat .none) m (j : Int) = _
      rw [Int.toNat_natCast]
    have hp : (intsUp 0 ds.length).all p = stepsAllD ds m 0 := by
      rw [stepsAll_iff]
      unfold intsUp
      rw [List.all_map]
      exact congrArg (List.all (List.range ds.length)) (funext fun j => by
        have t0 : (0 : Int) + (j : Int) = (j : Int) := by omega
        have t1 : 0 + j = j := by omega
        show p (.int ((0 : Int) + (j : Int))) = _
        rw [t0, t1]
        exact pj j)
    rw [e1, ← hp]
    refine g_all (p := p) rfl hit (by unfold intsUp; rw [List.length_map, List.length_range]; omega) (fun a ha => ?_) (fun ha => ?_) (fun ha => ?_)
    · unfold intsUp at ha
      obtain ⟨j, hj, rfl⟩ := List.mem_map.mp ha
      have hj := List.mem_range.mp hj
      have t0 : (0 : Int) + (j : Int) = (j : Int) := by omega
      rw [t0]
      have hx : ds[j]? = some (ds.getD j .none) := by rw [List.getElem?_eq_getElem hj, List.getD_eq_getElem?_getD, List.getElem?_eq_getElem hj]; rfl
      rw [pj j]
      refine notb (call_ev (as := [.d (ds.getD j .none), .d (.int m), .d (.int j)]) ?_ rfl (m_is_step _ m j n))
      have q := cmp_ev (g := ixD) (fa := fVar 0) (fb := fVar 2) (e := [some (.d (.tuple ds)), some (.d (.int m)), some (.d (.int j))]) (n := n) (n1 := n) (n2 := n) (a := .tuple ds) (b := .int j) rfl rfl (int_ix (.inl rfl) hx)
      show faCons _ _ [some (.d (.tuple ds)), some (.d (.int m)), some (.d (.int j))] n = _
      simp only [faCons, q, faNil, Sv.arg]
      rfl
    · rw [ha]
      exact g_ret rfl
    · rw [ha]
      exact ⟨rfl, rfl⟩
theorem num_int {d : PyData} {lo hi : Int} (h : numD d lo hi = true) : ∃ i, d = .int i ∧ lo ≤ i ∧ i ≤ hi := by
  cases d with
  | int i =>
    unfold numD at h
    rw [Bool.and_eq_true, decide_eq_true_eq, decide_eq_true_eq] at h
    exact ⟨i, rfl, h.1, h.2⟩
  | _ => cases h
theorem m_is_made (d : PyData) (s : Int) (n : Nat) : F_is_made [.d d, .d (.int s)] n = some (.d (.bool (madeD d s)), n) := by
  refine run_g rfl (g_tup (d := d) (lo := 1) (hi := 3) rfl (fun ht => ?_) (fun ds e1 l1 l2 => ?_))
  · unfold madeD
    rw [ht]
    exact ⟨rfl, rfl⟩
  · subst e1
    have hb := bigI
    have e1 : madeD (.tuple ds) s = (ds.all (fun x => numD x 0 (s - 1)) && ascD ds) := by
      show (tupD (.tuple ds) 1 3 && ds.all (fun x => numD x 0 (s - 1)) && ascD ds) = _
      rw [tup_yes l1 l2]
      rfl
    refine g_all (p := fun x => numD x 0 (s - 1)) (xs := ds) rfl rfl (by omega) (fun x hx => notb (call_ev (as := [.d x, .d (.int 0), .d (.int (s - 1))]) rfl rfl (m_is_number x 0 (s - 1) n))) (fun ha => ?_) (fun ha => ?_)
    · rw [e1, ha]
      refine g_ret (call_ev (as := [.d (.tuple ds)]) rfl rfl (m_is_ascending (.inl rfl) n (by omega) fun x hx y hy => ?_))
      obtain ⟨i, rfl, _⟩ := num_int (List.all_eq_true.mp ha x hx)
      obtain ⟨j, rfl, _⟩ := num_int (List.all_eq_true.mp ha y hy)
      trivial
    · rw [e1, ha]
      exact ⟨rfl, rfl⟩
theorem m_is_recipe (d : PyData) (n : Nat) (hs : smD d = true) : F_is_recipe [.d d] n = some (.d (.bool (recipeD d)), n) := by
  refine run_g rfl (g_tup (d := d) (lo := 3) (hi := 3) rfl (fun ht => ?_) (fun ds e1 l1 l2 => ?_))
  · have e1 : recipeD d = false := by
      unfold recipeD
      split
      · cases ht
      · rfl
    rw [e1]
    exact ⟨rfl, rfl⟩
  · subst e1
    match ds, l1, l2 with
    | [t, s, m], _, _ =>
      have ht : smD t = true := smDs_mem (ds := [t, s, m]) hs t List.mem_cons_self
      refine g_setT (x := .tuple [t, s, m]) rfl rfl (g_ret ?_)
      show fAnd _ _ [some (.d (.tuple [t, s, m])), some (.d t), some (.d s), some (.d m)] n = _
      have e1 : recipeD (.tuple [t, s, m]) = (thingsD t && (stepsD s ((seqD t).length : Int) && madeD m ((seqD s).length : Int))) := rfl
      have k1 := call_ev (fa := faCons (fVar 1) faNil) (e := [some (.d (.tuple [t, s, m])), some (.d t), some (.d s), some (.d m)]) (np := 1) (as := [.d t]) rfl rfl (m_are_things t n ht)
      rw [e1, and_ev k1]
      cases h1 : thingsD t with
      | false => rfl
      | true =>
        have h1' := h1
        unfold thingsD at h1'
        rw [Bool.and_eq_true, Bool.and_eq_true] at h1'
        obtain ⟨ts, rfl, _, _⟩ := tup_mem h1'.1.1
        have k2 := call_ev (fa := faCons (fVar 2) (faCons (lenS (faCons (fVar 1) faNil)) faNil)) (e := [some (.d (.tuple [.tuple ts, s, m])), some (.d (.tuple ts)), some (.d s), some (.d m)]) (n := n) (np := 2) (as := [.d s, .d (.int ts.length)]) rfl rfl (m_are_steps s ts.length n)
        rw [if_pos rfl, and_ev k2]
        show (if stepsD s (ts.length : Int) = true then _ else _) = (some (Sv.d (.bool (true && (stepsD s (ts.length : Int) && madeD m ((seqD s).length : Int)))), n) : Option (Sv × Nat))
        cases h2 : stepsD s (ts.length : Int) with
        | false => rfl
        | true =>
          have h2' := h2
          unfold stepsD at h2'
          rw [Bool.and_eq_true] at h2'
          obtain ⟨ss, rfl, _, _⟩ := tup_mem h2'.1
          rw [if_pos rfl]
          exact call_ev (as := [.d m, .d (.int ss.length)]) rfl rfl (m_is_made m ss.length n)
end Sb
namespace Sb
open PySem PySem.Spec PyProof.Rows L2
/-! ### the generator's draws -/
theorem add_ev {fa fb : FE} {e n n1 n2} {a b : Int} (h1 : fa e n = some (.d (.int a), n1)) (h2 : fb e n1 = some (.d (.int b), n2)) : fOp2 addL fa fb e n = some (.d (.int (a + b)), n2) := by
  simp only [fOp2, h1, h2]
  rfl
theorem cmp_see {g : PyData → PyData → Option PyData} {fa fb : FE} {e n n1 n2} {sa sb : Sv} {a b z : PyData} (h1 : fa e n = some (sa, n1)) (s1 : sa.see = some a) (h2 : fb e n1 = some (sb, n2)) (s2 : sb.see = some b) (h3 : g a b = some z) : fOp2 (seeB g) fa fb e n = some (.d z, n2) := by
  simp [fOp2, h1, h2, seeB, s1, s2, h3]
theorem eq_nil {xs : List PyData} (neg : Bool) (h : SeqAt.shaped (.list xs) = true) : eqD neg (.list xs) (.list []) = some (.bool (xs.isEmpty != neg)) := by
  show (if SeqAt.shaped (.list xs) = true ∧ SeqAt.shaped (.list []) = true then some (PyData.bool (PyData.eqv (.list xs) (.list []) != neg)) else none) = _
  rw [if_pos ⟨h, shaped_nil⟩, eqv_nil]
theorem sc_len (ns : List Int) : lenG (scriptD ns) = some (.d (.int ns.length)) := by
  show some (Sv.d (.int (ns.map PyData.int).length)) = _
  rw [List.length_map]
theorem sc_at {ns : List Int} {k : Nat} (h : k < ns.length) : ixD (scriptD ns) (.int (k : Int)) = some (.int ns[k]) :=
  int_ix (ds := ns.map .int) (.inr rfl) (by rw [List.getElem?_map, List.getElem?_eq_getElem h]; rfl)
theorem cell_loop (sc k : Sv) (n : Nat) : ∀ (xs : List PyData) (s : Int), ∃ s' : Int, forL (tgN 3) [3] (sAsg 2 (fOp2 (seeB fdivD) (fVar 2) (fC (.int 1000003)))) xs [some sc, some k, some (.d (.int s)), none] n = some (.nx, [some sc, some k, some (.d (.int s')), none], n)
  | [], s => ⟨s, rfl⟩
  | x :: xs, s => by
    obtain ⟨s', h⟩ := cell_loop sc k n xs (s.fdiv 1000003)
    exact ⟨s', h⟩
theorem m_cell (ns : List Int) (hn : ns.length ≤ 63) (k n : Nat) : ∃ i : Int, F_cell_at [.d (scriptD ns), .d (.int k)] n = some (.d (.int i), n) := by
  have hlen : ∀ a b, lenS (faCons (fVar 0) faNil) [some (.d (scriptD ns)), some (.d (.int k)), a, b] n = some (.d (.int ns.length), n) := fun a b => len_ev rfl (sc_len ns)
  have hlt := bt (cmp_ev (g := ordD .Lt) (fa := fVar 1) (e := [some (.d (scriptD ns)), some (.d (.int k)), none, none]) rfl (hlen none none) (ordLt_int k ns.length))
  have heq : bT (fOp2 (seeB (eqD false)) (fVar 0) (fLst faNil)) [some (.d (scriptD ns)), some (.d (.int k)), none, none] n = some (ns.isEmpty, n) := by
    refine (bt (cmp_see (a := .list (ns.map PyData.int)) (b := .list []) rfl rfl rfl rfl (eq_nil false (shaped_ints ns)))).trans ?_
    rw [Bool.bne_false]
    cases ns <;> rfl
  by_cases hk : k < ns.length
  · exact ⟨ns[k], run_g rfl (g_seq_if hlt (fun _ => g_seq_ret (cmp_ev rfl rfl (sc_at hk))) (fun z => absurd (of_decide_eq_false z) (by omega)))⟩
  · by_cases h0 : ns.length = 0
    · exact ⟨0, run_g rfl (g_seq_if hlt (fun z => absurd (of_decide_eq_true z) (by omega)) (fun _ => g_nx (g_seq_if heq (fun _ => g_seq_ret rfl) (fun z => by cases ns with
        | nil => cases z
        | cons a b => exact absurd h0 (by rw [List.length_cons]; omega)))))⟩
    · have hm : ∀ a b, fOp2 (seeB modD) (fVar 1) (lenS (faCons (fVar 0) faNil)) [some (.d (scriptD ns)), some (.d (.int k)), a, b] n = some (.d (.int ((k % ns.length : Nat) : Int)), n) := fun a b => by
        refine cmp_ev rfl (hlen a b) ?_
        show (if (ns.length : Int) ≠ 0 then some (PyData.int ((k : Int).fmod ns.length)) else none) = _
        rw [if_pos (by omega), Int.fmod_eq_emod_of_nonneg _ (Int.natCast_nonneg _), ← Int.natCast_emod]
      have hml : k % ns.length < ns.length := Nat.mod_lt _ (by omega)
      have hix : ∀ a b, fOp2 (seeB ixD) (fVar 0) (fOp2 (seeB modD) (fVar 1) (lenS (faCons (fVar 0) faNil))) [some (.d (scriptD ns)), some (.d (.int k)), a, b] n = some (.d (.int ns[k % ns.length]), n) := fun a b => cmp_ev rfl (hm a b) (sc_at hml)
      obtain ⟨q, hq⟩ : ∃ q : Nat, q = k / ns.length := ⟨_, rfl⟩
      have hdv : fOp2 (seeB fdivD) (fVar 1) (lenS (faCons (fVar 0) faNil)) [some (.d (scriptD ns)), some (.d (.int k)), some (.d (.int ns[k % ns.length])), none] n = some (.d (.int (q : Int)), n) := by
        rw [hq]
        refine cmp_ev rfl (hlen _ _) ?_
        show (if (ns.length : Int) ≠ 0 ∧ (ns.length : Int).natAbs < 1073741824 then some (PyData.int ((k : Int).fdiv ns.length)) else none) = _
        rw [if_pos ⟨by omega, by omega⟩, Int.fdiv_eq_ediv_of_nonneg _ (Int.natCast_nonneg _), ← Int.natCast_ediv]
      have hit : ∃ xs, itRng1 (faCons (fBi minAG (faCons (fOp2 (seeB fdivD) (fVar 1) (lenS (faCons (fVar 0) faNil))) (faCons (fC (.int 60)) faNil))) faNil) [some (.d (scriptD ns)), some (.d (.int k)), some (.d (.int ns[k % ns.length])), none] n = some (xs, n) ∧ xs.length ≤ big := by
        refine ⟨intsUp 0 (if (60 : Int) < (q : Int) then (60 : Int) else (q : Int)).toNat, ?_, ?_⟩
        · have hs : smallI (if (60 : Int) < (q : Int) then (60 : Int) else (q : Int)) = true := by
            unfold smallI
            split <;> rw [decide_eq_true (by omega), decide_eq_true (by omega)] <;> rfl
          have h60 : ∀ e : Ev, fC (.int 60) e n = some (.d (.int 60), n) := fun _ => rfl
          simp [itRng1, faCons, fBi, hdv, h60, faNil, Sv.arg, minAG, min2G, hs]
        · unfold intsUp
          rw [List.length_map, List.length_range]
          have : (big : Int) = 100000 := rfl
          split <;> omega
      obtain ⟨xs, hit, hxs⟩ := hit
      obtain ⟨s', hl⟩ := cell_loop (.d (scriptD ns)) (.d (.int k)) n xs ns[k % ns.length]
      refine ⟨ns[k % ns.length] * 31 + k + s' * 101, run_g rfl (g_seq_if hlt (fun z => absurd (of_decide_eq_true z) (by omega)) (fun _ => g_nx (g_seq_if heq (fun z => ?_) (fun _ => g_nx (g_set (hix none none) rfl ?_)))))⟩
      · rw [List.isEmpty_iff.mp z] at h0
        exact absurd rfl h0
      · have hfin : Gives (sFrz [2] (sRet (fOp2 addL (fOp2 addL (fOp2 (seeB mulD) (fOp2 (seeB ixD) (fVar 0) (fOp2 (seeB modD) (fVar 1) (lenS (faCons (fVar 0) faNil)))) (fC (.int 31))) (fVar 1)) (fOp2 (seeB mulD) (fVar 2) (fC (.int 101)))))) [some (.d (scriptD ns)), some (.d (.int k)), some (.d (.int s')), none] n (.d (.int (ns[k % ns.length] * 31 + k + s' * 101))) n :=
          g_frz (g_ret (add_ev (add_ev (mul_ev (hix _ _) rfl (by decide)) rfl) (mul_ev rfl rfl (by decide))))
        obtain ⟨e', hfin⟩ := hfin
        refine ⟨e', ?_⟩
        show sSeq (sFor _ _ _ _) _ [some (.d (scriptD ns)), some (.d (.int k)), some (.d (.int ns[k % ns.length])), none] n = _
        simp only [sSeq, sFor, hit, if_pos hxs, hl]
        exact hfin
theorem mod_in {a : Int} {m : Nat} (h : 0 < m) : ∃ i : Nat, i < m ∧ modD (.int a) (.int (m : Int)) = some (.int (i : Int)) := by
  refine ⟨(a.fmod m).toNat, ?_, ?_⟩
  · have h1 := Int.fmod_nonneg_of_pos a (show (0 : Int) < m by omega)
    have h2 := Int.fmod_lt_of_pos a (show (0 : Int) < m by omega)
    omega
  · have h1 := Int.fmod_nonneg_of_pos a (show (0 : Int) < m by omega)
    show (if (m : Int) ≠ 0 then some (PyData.int (a.fmod m)) else none) = _
    rw [if_pos (by omega), Int.toNat_of_nonneg h1]
theorem m_mixed (ns : List Int) (hn : ns.length ≤ 63) (k n many : Nat) (hk : k ≤ 100000) (hm : 0 < many) : ∃ i : Nat, i < many ∧ F_mixed [.d (scriptD ns), .d (.int k), .d (.int many)] n = some (.d (.int i), n) := by
  obtain ⟨c, hc⟩ := m_cell ns hn k n
  obtain ⟨s, hs, es⟩ := mod_in (a := c * 1103515245 + 7919 * k + 12345) (m := 2147483647) (by omega)
  obtain ⟨i1, h1, e1⟩ := mod_in (a := (s : Int) ^ 5) (m := 2147483647) (by omega)
  obtain ⟨i2, h2, e2⟩ := mod_in (a := (i1 : Int)) (m := 999983) (by omega)
  obtain ⟨i3, h3, e3⟩ := mod_in (a := (i2 : Int)) (m := many) hm
  have hp : powD (.int (s : Int)) (.int 5) = some (.int ((s : Int) ^ 5)) := by
    show (if (0 : Int) ≤ 5 ∧ (5 : Int) ≤ 1000000 ∧ (s : Int).natAbs < 2 ^ 64 then some (PyData.int ((s : Int) ^ 5)) else none) = _
    rw [if_pos ⟨by omega, by omega, by omega⟩]
  refine ⟨i3, h3, run_g rfl (g_set (sv := .d (.int s)) (n1 := n) ?_ rfl (g_frz (g_ret ?_)))⟩
  · exact cmp_ev (add_ev (add_ev (mul_ev (call_ev (as := [.d (scriptD ns), .d (.int k)]) rfl rfl hc) rfl (by decide)) (mul_ev (a := 7919) (b := (k : Int)) rfl rfl (by omega))) rfl) rfl es
  · exact cmp_ev (cmp_ev (cmp_ev (cmp_ev (a := .int s) rfl rfl hp) rfl e1) rfl e2) rfl e3
theorem fa_cM {f : FE} {g : FA} {e : Ev} {n n1 n2 : Nat} {a : Sv} {as : List Sv} (h1 : f e n = some (a, n1)) (h2 : g e n1 = some (as, n2)) : faCons f g e n = some (a.arg :: as, n2) := by
  simp only [faCons, h1, h2]
theorem m_draw (ns : List Int) (hn : ns.length ≤ 63) (n many : Nat) (hk : n < 100000) (hm : 0 < many) : ∃ i : Nat, i < many ∧ F_draw [.d (scriptD ns), .st, .d (.int many)] n = some (.d (.int i), n + 1) := by
  obtain ⟨i, hi, e⟩ := m_mixed ns hn (n + 1) (n + 1) many (by omega) hm
  refine ⟨i, hi, run_g rfl ?_⟩
  have hg : Gives (sRet (fCall 3 F_mixed (faCons (fVar 0) (faCons (lenS (faCons (fVar 1) faNil)) (faCons (fVar 2) faNil))))) [some (.d (scriptD ns)), some .st, some (.d (.int many))] (n + 1) (.d (.int i)) (n + 1) := g_ret (call_ev (as := [.d (scriptD ns), .d (.int ((n + 1 : Nat) : Int)), .d (.int many)]) (fa_cM (f := fVar 0) (a := .d (scriptD ns)) (n1 := n + 1) rfl (fa_cM (f := lenS (faCons (fVar 1) faNil)) (a := .d (.int ((n + 1 : Nat) : Int))) (n1 := n + 1) (if_pos (show n + 1 ≤ 100000 by omega)) rfl)) rfl e)
  obtain ⟨e', hg⟩ := hg
  refine ⟨e', ?_⟩
  have hd : sDraw 1 [some (.d (scriptD ns)), some .st, some (.d (.int many))] n = some (.nx, [some (.d (scriptD ns)), some .st, some (.d (.int many))], n + 1) := by
    show (if n < big then some (Fl.nx, [some (Sv.d (scriptD ns)), some Sv.st, some (Sv.d (.int many))], n + 1) else none) = _
    rw [if_pos (show n < big from hk)]
  show sSeq (sDraw 1) _ [some (.d (scriptD ns)), some .st, some (.d (.int many))] n = _
  simp only [sSeq, hd]
  exact hg
theorem m_pick (ns : List Int) (hn : ns.length ≤ 63) (n : Nat) (hk : n < 100000) {ds : List PyData} (hd : ds ≠ []) : ∃ x ∈ ds, F_pick [.d (scriptD ns), .st, .d (.tuple ds)] n = some (.d x, n + 1) := by
  obtain ⟨i, hi, e⟩ := m_draw ns hn n ds.length hk (List.length_pos_iff.mpr hd)
  refine ⟨ds[i], List.getElem_mem hi, run_g rfl (g_ret (cmp_ev (a := .tuple ds) (b := .int i) rfl (call_ev (as := [.d (scriptD ns), .st, .d (.int ds.length)]) rfl rfl e) (int_ix (.inl rfl) (List.getElem?_eq_getElem hi))))⟩
theorem tup_ev {f : FE} {e n n1 xs} (h : f e n = some (.cell xs, n1) ∨ f e n = some (.d (.list xs), n1)) : fBi (see1 tupG) (faCons f faNil) e n = some (.d (.tuple xs), n1) := by
  rcases h with h | h <;> simp [fBi, faCons, h, faNil, Sv.arg, see1, Sv.see, tupG]
theorem erase_perm {α : Type} : ∀ {l : List α} {i : Nat} (h : i < l.length), (l[i] :: l.eraseIdx i).Perm l
  | x :: l, 0, _ => .refl _
  | x :: l, i + 1, h => by
    have h' : i < l.length := by rw [List.length_cons] at h; omega
    rw [List.getElem_cons_succ, List.eraseIdx_cons_succ]
    exact (List.Perm.swap x l[i] (l.eraseIdx i)).trans ((erase_perm h').cons x)
/-! some of a list -/
theorem sortOk_sub {xs ys : List PyData} (h : sortOk xs = true) (hs : ∀ y ∈ ys, y ∈ xs) (hl : ys.length ≤ xs.length) : sortOk ys = true := by
  unfold sortOk at h ⊢
  simp only [Bool.and_eq_true, List.all_eq_true, Bool.or_eq_true, decide_eq_true_eq] at h ⊢
  obtain ⟨⟨⟨h1, h2⟩, h3⟩, h4⟩ := h
  refine ⟨⟨⟨fun a ha b hb => h1 a (hs a ha) b (hs b hb), ?_⟩, fun a ha => h3 a (hs a ha)⟩, by omega⟩
  rcases h2 with h2 | h2
  · exact .inl fun a ha => h2 a (hs a ha)
  · exact .inr fun a ha => h2 a (hs a ha)
theorem some_loop (ns : List Int) (hn : ns.length ≤ 63) (a : Sv) (c : Nat) (xs : List PyData) (hsh : ∀ ys : List PyData, (∀ y ∈ ys, y ∈ xs) → SeqAt.shaped (.list ys) = true) (hx : xs.length ≤ 1000) : ∀ (f n : Nat) (left found : List PyData), left.length < f → n + left.length < 100000 → (left ++ found).Perm xs → found.length ≤ c → 
    ∃ left' found' n', whL (tAndF (bT (fOp2 (seeB (eqD true)) (fVar 4) (fLst faNil))) (bT (fOp2 (seeB (ordD .Lt)) (lenS (faCons (fVar 5) faNil)) (fVar 3)))) [] (sAppPop 5 4 (fCall 3 F_draw (faCons (fVar 0) (faCons (fVar 1) (faCons (lenS (faCons (fVar 4) faNil)) faNil))))) f [some (.d (scriptD ns)), some .st, some a, some (.d (.int c)), some (.cell left), some (.cell found)] n = some (.nx, [some (.d (scriptD ns)), some .st, some a, some (.d (.int c)), some (.cell left'), some (.cell found')], n') ∧ n ≤ n' ∧ n' ≤ n + left.length ∧ (left' ++ found').Perm xs ∧ found'.length ≤ c ∧ (left' = [] ∨ found'.length = c)
  | 0, n, left, found, hf, _, _, _ => absurd hf (by omega)
  | f + 1, n, left, found, hf, hb, hp, hc => by
    have hl : left.length + found.length = xs.length := by rw [← List.length_append]; exact hp.length_eq
    have hbig : (big : Int) = 100000 := rfl
    have h1 : bT (fOp2 (seeB (eqD true)) (fVar 4) (fLst faNil)) [some (.d (scriptD ns)), some .st, some a, some (.d (.int c)), some (.cell left), some (.cell found)] n = some (!left.isEmpty, n) := by
      refine (bt (cmp_see (a := .list left) (b := .list []) rfl rfl rfl rfl (eq_nil true (hsh left fun y hy => hp.mem_iff.mp (List.mem_append_left _ hy))))).trans ?_
      rw [Bool.bne_true]
    have h2 : bT (fOp2 (seeB (ordD .Lt)) (lenS (faCons (fVar 5) faNil)) (fVar 3)) [some (.d (scriptD ns)), some .st, some a, some (.d (.int c)), some (.cell left), some (.cell found)] n = some (decide ((found.length : Int) < c), n) := bt (cmp_ev (a := .int found.length) (b := .int c) rfl rfl (ordLt_int _ _))
    have ht := and_t (g := bT (fOp2 (seeB (ordD .Lt)) (lenS (faCons (fVar 5) faNil)) (fVar 3))) h1
    rw [h2] at ht
    cases left with
    | nil => exact ⟨[], found, n, by simp only [whL, ht]; rfl, by omega, by omega, hp, hc, .inl rfl⟩
    | cons y r =>
      by_cases hcc : found.length < c
      · obtain ⟨i, hi, e⟩ := m_draw ns hn n (y :: r).length (by omega) (by rw [List.length_cons]; omega)
        have hcall : fCall 3 F_draw (faCons (fVar 0) (faCons (fVar 1) (faCons (lenS (faCons (fVar 4) faNil)) faNil))) [some (.d (scriptD ns)), some .st, some a, some (.d (.int c)), some (.cell (y :: r)), some (.cell found)] n = some (.d (.int i), n + 1) := call_ev (as := [.d (scriptD ns), .st, .d (.int (y :: r).length)]) rfl rfl e
        have hsi : seqIndex? (i : Int) (y :: r).length = some i := by
          rw [List.length_cons] at hi
          unfold seqIndex?
          simp [show ¬ ((i : Int) < 0) by omega]
          omega
        have hpp : ((y :: r).eraseIdx i ++ (found ++ [(y :: r)[i]])).Perm xs := by
          refine List.Perm.trans ?_ hp
          rw [← List.append_assoc]
          refine (List.perm_append_singleton _ _).trans ?_
          rw [← List.cons_append]
          exact List.Perm.append_right _ (erase_perm hi)
        have hel : ((y :: r).eraseIdx i).length = (y :: r).length - 1 := List.length_eraseIdx_of_lt hi
        have hsm : smallI (i : Int) = true := by
          unfold smallI
          rw [decide_eq_true (by omega), decide_eq_true (by omega)]
          rfl
        have hbody : sAppPop 5 4 (fCall 3 F_draw (faCons (fVar 0) (faCons (fVar 1) (faCons (lenS (faCons (fVar 4) faNil)) faNil)))) [some (.d (scriptD ns)), some .st, some a, some (.d (.int c)), some (.cell (y :: r)), some (.cell found)] n = some (.nx, [some (.d (scriptD ns)), some .st, some a, some (.d (.int c)), some (.cell ((y :: r).eraseIdx i)), some (.cell (found ++ [(y :: r)[i]]))], n + 1) := by
          unfold sAppPop
          rw [hcall]
          show (match seqIndex? (i : Int) (y :: r).length with
            | some k => (match (y :: r)[k]? with
              | some y' => if 5 ≠ 4 ∧ found.length < big ∧ smallI (i : Int) = true then _ else none
              | none => none)
            | none => none) = _
          rw [hsi]
          dsimp only
          rw [List.getElem?_eq_getElem hi]
          dsimp only
          rw [if_pos ⟨by omega, by omega, hsm⟩]
          rfl
        obtain ⟨l', f', n', q1, q2, q3, q4, q5, q6⟩ := some_loop ns hn a c xs hsh hx f (n + 1) ((y :: r).eraseIdx i) (found ++ [(y :: r)[i]]) (by rw [hel]; omega) (by rw [hel]; rw [List.length_cons] at *; omega) hpp (by rw [List.length_append]; show _ + 1 ≤ c; omega)
        refine ⟨l', f', n', ?_, by omega, by rw [hel] at q3; rw [List.length_cons] at *; omega, q4, q5, q6⟩
        rw [← q1]
        have ht' : tAndF (bT (fOp2 (seeB (eqD true)) (fVar 4) (fLst faNil))) (bT (fOp2 (seeB (ordD .Lt)) (lenS (faCons (fVar 5) faNil)) (fVar 3))) [some (.d (scriptD ns)), some .st, some a, some (.d (.int c)), some (.cell (y :: r)), some (.cell found)] n = some (true, n) := by
          rw [ht, decide_eq_true (by omega)]
          rfl
        simp only [whL, ht', hbody, wipeE]
      · refine ⟨y :: r, found, n, ?_, by omega, by omega, hp, hc, .inr (by omega)⟩
        have ht' : tAndF (bT (fOp2 (seeB (eqD true)) (fVar 4) (fLst faNil))) (bT (fOp2 (seeB (ordD .Lt)) (lenS (faCons (fVar 5) faNil)) (fVar 3))) [some (.d (scriptD ns)), some .st, some a, some (.d (.int c)), some (.cell (y :: r)), some (.cell found)] n = some (false, n) := by
          rw [ht, decide_eq_false (by omega)]
          rfl
        simp only [whL, ht']
theorem m_some_of (ns : List Int) (hn : ns.length ≤ 63) (n c : Nat) (xs : List PyData) (hsh : ∀ ys : List PyData, (∀ y ∈ ys, y ∈ xs) → SeqAt.shaped (.list ys) = true) (hx : xs.length ≤ 1000) (hb : n + xs.length < 100000) (ho : sortOk xs = true) :
    ∃ zs rest n', F_some_of [.d (scriptD ns), .st, .d (.list xs), .d (.int c)] n = some (.d (.tuple (sortD zs)), n') ∧ n ≤ n' ∧ n' ≤ n + xs.length ∧ (rest ++ zs).Perm xs ∧ zs.length ≤ c ∧ (rest = [] ∨ zs.length = c) := by
  obtain ⟨l', f', n', q1, q2, q3, q4, q5, q6⟩ := some_loop ns hn (.d (.list xs)) c xs hsh hx fuel n xs [] (by show _ < 100000; omega) hb (by rw [List.append_nil]) (Nat.zero_le _)
  refine ⟨f', l', n', run_g rfl ?_, q2, q3, q4, q5, q6⟩
  have hk : sortOk f' = true := sortOk_sub ho (fun y hy => q4.mem_iff.mp (List.mem_append_right _ hy)) (by
    have := q4.length_eq
    rw [List.length_append] at this
    omega)
  have hfin : Gives (sFrz [5] (sRet (fBi (see1 tupG) (faCons (fBi (see1 sortG) (faCons (fVar 5) faNil)) faNil)))) [some (.d (scriptD ns)), some .st, some (.d (.list xs)), some (.d (.int c)), some (.cell l'), some (.cell f')] n' (.d (.tuple (sortD f'))) n' := by
    have hs : fBi (see1 sortG) (faCons (fVar 5) faNil) [some (.d (scriptD ns)), some .st, some (.d (.list xs)), some (.d (.int c)), some (.cell l'), some (.d (.list f'))] n' = some (.cell (sortD f'), n') := by
      show (match (if sortOk f' = true then some (Sv.cell (sortD f')) else none) with
        | none => none
        | some r => some (r, n')) = _
      rw [if_pos hk]
    refine g_frz (g_ret ?_)
    show fBi (see1 tupG) (faCons (fBi (see1 sortG) (faCons (fVar 5) faNil)) faNil) [some (.d (scriptD ns)), some .st, some (.d (.list xs)), some (.d (.int c)), some (.cell l'), some (.d (.list f'))] n' = _
    exact tup_ev (.inl hs)
  obtain ⟨e', hfin⟩ := hfin
  refine ⟨e', ?_⟩
  have hw : sWhile (tAndF (bT (fOp2 (seeB (eqD true)) (fVar 4) (fLst faNil))) (bT (fOp2 (seeB (ordD .Lt)) (lenS (faCons (fVar 5) faNil)) (fVar 3)))) [] (sAppPop 5 4 (fCall 3 F_draw (faCons (fVar 0) (faCons (fVar 1) (faCons (lenS (faCons (fVar 4) faNil)) faNil))))) fuel [some (.d (scriptD ns)), some .st, some (.d (.list xs)), some (.d (.int c)), some (.cell xs), some (.cell [])] n = _ := q1
  show sSeq (sWhile _ _ _ _) _ [some (.d (scriptD ns)), some .st, some (.d (.list xs)), some (.d (.int c)), some (.cell xs), some (.cell [])] n = _
  simp only [sSeq, hw]
  exact hfin
end Sb
namespace Sb
open PySem PySem.Spec PyProof.Rows L2
/-! ### the generator: things, steps, recipes -/
theorem if_ev {t : FT} {f g : FE} {e n c n1} (h : t e n = some (c, n1)) : fIf t f g e n = if c = true then f e n1 else g e n1 := by
  cases c <;> simp [fIf, h]
/-- the reading q is nowhere -/
def noQ (t : PyData) : Bool := (seqD t).all fun x => match x with
  | .str z => decide (z ≠ "q")
  | _ => true
def okT (t : PyData) : Prop := ∃ es, t = .tuple es ∧ 1 ≤ es.length ∧ es.length ≤ 3 ∧ thingD t = true ∧ smD t = true ∧ noQ t = true
def THS : List PyData := [.tuple [.str "a", .str "b"], .tuple [.str "", .str "x"], .tuple [.str "ab", .str "ba"], .tuple [.str "", .str "a", .str "aab"], .tuple [.str "c"], .tuple [.str "b", .str "ca", .str "cb"]]
def cut2 : PyData → PyData
  | .tuple xs => .tuple (cutD xs none (some 2))
  | x => x
def okTb (t : PyData) : Bool := (match t with
  | .tuple es => decide (1 ≤ es.length) && decide (es.length ≤ 3)
  | _ => false) && thingD t && smD t && noQ t
theorem okT_of {t : PyData} (h : okTb t = true) : okT t := by
  cases t with
  | tuple es =>
    unfold okTb at h
    simp only [Bool.and_eq_true, decide_eq_true_eq] at h
    exact ⟨es, rfl, h.1.1.1.1, h.1.1.1.2, h.1.1.2, h.1.2, h.2⟩
  | _ => cases h
theorem THS_ok : (THS.all fun t => okTb t && okTb (cut2 t)) = true := by decide +kernel
theorem m_some_thing (ns : List Int) (hn : ns.length ≤ 63) (n : Nat) (hb : n < 99000) : ∃ t n', F_some_thing [.d (scriptD ns), .st] n = some (.d t, n') ∧ n ≤ n' ∧ n' ≤ n + 2 ∧ okT t := by
  obtain ⟨x, hx, e⟩ := m_pick ns hn n (by omega) (ds := THS) (by unfold THS; intro h; cases h)
  obtain ⟨i, hi, e2⟩ := m_draw ns hn (n + 1) 4 (by omega) (by omega)
  have hok := List.all_eq_true.mp THS_ok x hx
  rw [Bool.and_eq_true] at hok
  have hc := bt (cmp_ev (g := ordD .Gt) (fa := fCall 3 F_draw (faCons (fVar 0) (faCons (fVar 1) (faCons (fC (.int 4)) faNil)))) (fb := fC (.int 0)) (e := [some (.d (scriptD ns)), some .st, some (.d x)]) (n := n + 1) (call_ev (as := [.d (scriptD ns), .st, .d (.int (4 : Nat))]) rfl rfl e2) rfl (ordGt_int i 0))
  obtain ⟨es, ex, _⟩ := okT_of hok.1
  have main : ∀ t : PyData, (if (0 : Int) < (i : Int) then x else cut2 x) = t → Gives b_some_thing (argsE 3 2 [.d (scriptD ns), .st]) n (.d t) (n + 2) := by
    rintro t rfl
    refine g_set (sv := .d x) (n1 := n + 1) (call_ev (as := [.d (scriptD ns), .st, .d (.tuple THS)]) rfl rfl e) rfl (g_frz (g_ret ?_))
    refine (if_ev hc).trans ?_
    by_cases h : (0 : Int) < (i : Int)
    · rw [decide_eq_true h, if_pos rfl, if_pos h]
      rfl
    · rw [decide_eq_false h, if_neg Bool.false_ne_true, if_neg h, ex]
      rfl
  refine ⟨_, n + 2, run_g rfl (main _ rfl), by omega, by omega, ?_⟩
  split
  · exact okT_of hok.1
  · exact okT_of hok.2
/-! steps -/
def goodR (m s : Nat) (r : PyData) : Prop := ∃ (w : Str) (j : Nat), r = .tuple [.str w, .int (j : Int)] ∧ ((w = "thing" ∧ j < m) ∨ (w = "step" ∧ j < s))
theorem app_ev {i : Nat} {f : FE} {e n n1 xs} {y : PyData} (h : f e n = some (.d y, n1)) (hc : cellAt e i = some xs) (hl : xs.length < big) : sApp i f e n = some (.nx, e.set i (some (.cell (xs ++ [y]))), n1) := by
  simp [sApp, h, Sv.take, hc, hl]
theorem if_st {t : FT} {a b : FS} {e n c n1} (h : t e n = some (c, n1)) : sIf t a b e n = if c = true then a e n1 else b e n1 := by
  cases c <;> simp [sIf, h]
theorem pair_ev {w : Str} {f : FE} {e n n1} {i : Int} (h : f e n = some (.d (.int i), n1)) : fTup (faCons (fC (.str w)) (faCons f faNil)) e n = some (.d (.tuple [.str w, .int i]), n1) := by
  have h0 : fC (.str w) e n = some (.d (.str w), n) := rfl
  simp [fTup, faCons, h0, h, faNil, Sv.arg, keepAll]
  decide
def stepB : FS := (sIf (tOrF (bT (fOp2 (seeB (eqD false)) (fVar 3) (fC (.int 0)))) (bT (fOp2 (seeB (ordD .Lt)) (fCall 3 F_draw (faCons (fVar 0) (faCons (fVar 1) (faCons (fC (.int 5)) faNil)))) (fC (.int 3)))))
    (sApp 6 (fTup (faCons (fC (.str "thing")) (faCons (fCall 3 F_draw (faCons (fVar 0) (faCons (fVar 1) (faCons (fVar 2) faNil)))) faNil))))
    (sApp 6 (fTup (faCons (fC (.str "step")) (faCons (fCall 3 F_draw (faCons (fVar 0) (faCons (fVar 1) (faCons (fVar 3) faNil)))) faNil)))))
theorem step_one (ns : List Int) (hn : ns.length ≤ 63) (m s : Nat) (hm : 0 < m) (a b x : Option Sv) (rs : List PyData) (n : Nat) (hb : n < 99000) (hl : rs.length ≤ 100) (hr : ∀ r ∈ rs, goodR m s r) :
    ∃ r n', stepB [some (.d (scriptD ns)), some .st, some (.d (.int m)), some (.d (.int s)), a, b, some (.cell rs), x] n = some (.nx, [some (.d (scriptD ns)), some .st, some (.d (.int m)), some (.d (.int s)), a, b, some (.cell (rs ++ [r])), x], n') ∧ n ≤ n' ∧ n' ≤ n + 2 ∧ goodR m s r := by
  have hbig : rs.length < big := by
    show rs.length < 100000
    omega
  have h1 : bT (fOp2 (seeB (eqD false)) (fVar 3) (fC (.int 0))) [some (.d (scriptD ns)), some .st, some (.d (.int m)), some (.d (.int s)), a, b, some (.cell rs), x] n = some (decide ((s : Int) = 0), n) := bt (cmp_ev (a := .int s) (b := .int 0) rfl rfl (by show some (PyData.bool (decide ((s : Int) = 0) != false)) = _; rw [Bool.bne_false]))
  have thing : ∀ n0, n0 < 99500 → ∃ r, sApp 6 (fTup (faCons (fC (.str "thing")) (faCons (fCall 3 F_draw (faCons (fVar 0) (faCons (fVar 1) (faCons (fVar 2) faNil)))) faNil))) [some (.d (scriptD ns)), some .st, some (.d (.int m)), some (.d (.int s)), a, b, some (.cell rs), x] n0 = some (.nx, [some (.d (scriptD ns)), some .st, some (.d (.int m)), some (.d (.int s)), a, b, some (.cell (rs ++ [r])), x], n0 + 1) ∧ goodR m s r := fun n0 h0 => by
    obtain ⟨i, hi, e⟩ := m_draw ns hn n0 m (by omega) hm
    exact ⟨_, app_ev (pair_ev (call_ev (as := [.d (scriptD ns), .st, .d (.int m)]) rfl rfl e)) rfl hbig, _, i, rfl, .inl ⟨rfl, hi⟩⟩
  by_cases h0 : s = 0
  · obtain ⟨r, q, g⟩ := thing n (by omega)
    refine ⟨r, n + 1, ?_, by omega, by omega, g⟩
    unfold stepB
    rw [if_st (c := true) (n1 := n) (by rw [or_t h1, decide_eq_true (by omega), if_pos rfl]), if_pos rfl]
    exact q
  · obtain ⟨i, hi, e⟩ := m_draw ns hn n 5 (by omega) (by omega)
    have h2 := bt (cmp_ev (g := ordD .Lt) (fa := fCall 3 F_draw (faCons (fVar 0) (faCons (fVar 1) (faCons (fC (.int 5)) faNil)))) (fb := fC (.int 3)) (e := [some (.d (scriptD ns)), some .st, some (.d (.int m)), some (.d (.int s)), a, b, some (.cell rs), x]) (n := n) (call_ev (as := [.d (scriptD ns), .st, .d (.int (5 : Nat))]) rfl rfl e) rfl (ordLt_int i 3))
    have ht : tOrF (bT (fOp2 (seeB (eqD false)) (fVar 3) (fC (.int 0)))) (bT (fOp2 (seeB (ordD .Lt)) (fCall 3 F_draw (faCons (fVar 0) (faCons (fVar 1) (faCons (fC (.int 5)) faNil)))) (fC (.int 3)))) [some (.d (scriptD ns)), some .st, some (.d (.int m)), some (.d (.int s)), a, b, some (.cell rs), x] n = some (decide ((i : Int) < 3), n + 1) := by
      rw [or_t h1, decide_eq_false (by omega), if_neg Bool.false_ne_true]
      exact h2
    by_cases h3 : i < 3
    · obtain ⟨r, q, g⟩ := thing (n + 1) (by omega)
      refine ⟨r, n + 2, ?_, by omega, by omega, g⟩
      unfold stepB
      rw [if_st ht, decide_eq_true (by omega), if_pos rfl]
      exact q
    · obtain ⟨j, hj, e2⟩ := m_draw ns hn (n + 1) s (by omega) (by omega)
      refine ⟨_, n + 2, ?_, by omega, by omega, "step", j, rfl, .inr ⟨rfl, hj⟩⟩
      unfold stepB
      rw [if_st ht, decide_eq_false (by omega), if_neg Bool.false_ne_true]
      exact app_ev (pair_ev (call_ev (as := [.d (scriptD ns), .st, .d (.int s)]) rfl rfl e2)) rfl hbig
theorem step_loop (ns : List Int) (hn : ns.length ≤ 63) (m s : Nat) (hm : 0 < m) (a b : Option Sv) : ∀ (xs rs : List PyData) (n : Nat), n + 2 * xs.length < 99000 → rs.length + xs.length ≤ 100 → (∀ r ∈ rs, goodR m s r) →
    ∃ rs' n', forL (tgN 7) [7] stepB xs [some (.d (scriptD ns)), some .st, some (.d (.int m)), some (.d (.int s)), a, b, some (.cell rs), none] n = some (.nx, [some (.d (scriptD ns)), some .st, some (.d (.int m)), some (.d (.int s)), a, b, some (.cell rs'), none], n') ∧ n ≤ n' ∧ n' ≤ n + 2 * xs.length ∧ rs'.length = rs.length + xs.length ∧ ∀ r ∈ rs', goodR m s r
  | [], rs, n, _, _, hr => ⟨rs, n, rfl, by omega, by omega, rfl, hr⟩
  | x :: xs, rs, n, h1, h2, hr => by
    rw [List.length_cons] at h1 h2
    obtain ⟨r, n1, q, l1, l2, g⟩ := step_one ns hn m s hm a b (some (.d x)) rs n (by omega) (by omega) hr
    obtain ⟨rs', n2, q2, l3, l4, l5, l6⟩ := step_loop ns hn m s hm a b xs (rs ++ [r]) n1 (by omega) (by rw [List.length_append]; show _ + 1 + _ ≤ _; omega) (fun y hy => by
      rcases List.mem_append.mp hy with h | h
      · exact hr y h
      · rw [List.mem_singleton.mp h]; exact g)
    refine ⟨rs', n2, ?_, by omega, by rw [List.length_cons]; omega, by rw [l5, List.length_append, List.length_singleton, List.length_cons]; omega, l6⟩
    rw [← q2]
    have ht : tgN 7 x [some (.d (scriptD ns)), some .st, some (.d (.int m)), some (.d (.int s)), a, b, some (.cell rs), none] = some [some (.d (scriptD ns)), some .st, some (.d (.int m)), some (.d (.int s)), a, b, some (.cell rs), some (.d x)] := rfl
    have hw : wipeE [some (.d (scriptD ns)), some .st, some (.d (.int m)), some (.d (.int s)), a, b, some (.cell (rs ++ [r])), some (.d x)] [7] = [some (.d (scriptD ns)), some .st, some (.d (.int m)), some (.d (.int s)), a, b, some (.cell (rs ++ [r])), none] := rfl
    simp only [forL, ht, q, hw]
def STN : List PyData := [.str "join", .str "join", .str "less", .str "same", .str "pick", .str "sort", .str "turn", .str "first", .str "rest"]
def stnOk : PyData → Bool
  | .str o => match lookM mREADINGS' o with
    | some k => decide (0 ≤ k) && decide (k ≤ 3) && decide ((match valV (mergeK [] (litKV [("join", 2), ("less", 2), ("same", 2), ("pick", 3)])) (Sum.inr o) with
        | some (.int i) => some i
        | none => some 1
        | _ => none) = some k)
    | none => false
  | _ => false
theorem STN_ok : STN.all stnOk = true := by decide +kernel
def goodS (m s : Nat) (d : PyData) : Prop := ∃ (o : Str) (rs : List PyData), d = .tuple [.str o, .tuple rs] ∧ lookM mREADINGS' o = some (rs.length : Int) ∧ rs.length ≤ 3 ∧ o.length ≤ 10 ∧ ∀ r ∈ rs, goodR m s r
theorem g_par {i j : Nat} {f g : FE} {rest : FS} {e n a n1 b n2 v n'} (h1 : f e n = some (a, n1)) (h2 : g e n1 = some (b, n2)) (ha : a.own = true) (hb : b.own = true) (k : Gives rest ((e.set i (some a)).set j (some b)) n2 v n') : Gives (sSeq (sPar i j f g) rest) e n v n' := by
  obtain ⟨e', q⟩ := k
  refine ⟨e', ?_⟩
  simp only [sSeq, sPar, h1, h2, ha, hb, and_self, if_true]
  exact q
/-- a loop that runs through -/
theorem g_run {it : FI} {tg : FG} {wp : List Nat} {body rest : FS} {e e1 : Ev} {n n1 n2 : Nat} {xs : List PyData} {v n'} (hit : it e n = some (xs, n1)) (hl : xs.length ≤ big) (h : forL tg wp body xs e n1 = some (.nx, e1, n2)) (k : Gives rest e1 n2 v n') : Gives (sSeq (sFor it tg wp body) rest) e n v n' := by
  obtain ⟨e', q⟩ := k
  exact ⟨e', by simp only [sSeq, sFor, hit, if_pos hl, h]; exact q⟩
theorem STN_len : (STN.all fun d => match d with
    | .str o => decide (o.length ≤ 10)
    | _ => false) = true := by decide +kernel
theorem m_some_step (ns : List Int) (hn : ns.length ≤ 63) (m s n : Nat) (hm : 0 < m) (hb : n < 98000) : ∃ d n', F_some_step [.d (scriptD ns), .st, .d (.int m), .d (.int s)] n = some (.d d, n') ∧ n ≤ n' ∧ n' ≤ n + 7 ∧ goodS m s d := by
  obtain ⟨x, hx, e⟩ := m_pick ns hn n (by omega) (ds := STN) (by unfold STN; intro h; cases h)
  have hok := List.all_eq_true.mp STN_ok x hx
  have hlen := List.all_eq_true.mp STN_len x hx
  cases x with
  | str o =>
    have hlen := of_decide_eq_true hlen
    cases q : lookM mREADINGS' o with
    | none =>
      unfold stnOk at hok
      simp only [q] at hok
      cases hok
    | some k =>
      unfold stnOk at hok
      simp only [q, Bool.and_eq_true, decide_eq_true_eq] at hok
      obtain ⟨⟨k0, k3⟩, hv⟩ := hok
      have hk : k = ((k.toNat : Nat) : Int) := by omega
      have hup : (intsUp 0 k.toNat).length = k.toNat := by unfold intsUp; rw [List.length_map, List.length_range]
      obtain ⟨rs, n', q2, l1, l2, l3, l4⟩ := step_loop ns hn m s hm (some (.d (.tuple STN))) (some (.d (.str o))) (intsUp 0 k.toNat) [] (n + 1) (by rw [hup]; omega) (by rw [hup]; show 0 + _ ≤ _; omega) (fun r hr => by cases hr)
      rw [hup] at l2 l3
      have l3 : rs.length = k.toNat := by
        rw [l3]
        exact Nat.zero_add _
      have hg : fGetLit [("join", 2), ("less", 2), ("same", 2), ("pick", 3)] (fVar 5) (fC (.int 1)) [some (.d (scriptD ns)), some .st, some (.d (.int m)), some (.d (.int s)), some (.d (.tuple STN)), some (.d (.str o)), some (.cell []), none] (n + 1) = some (.d (.int k), n + 1) := by
        show (match valV (mergeK [] (litKV [("join", 2), ("less", 2), ("same", 2), ("pick", 3)])) (Sum.inr o) with
          | some (.int i) => some (Sv.d (.int i), n + 1)
          | none => some (Sv.d (.int 1), n + 1)
          | _ => none) = _
        revert hv
        cases valV (mergeK [] (litKV [("join", 2), ("less", 2), ("same", 2), ("pick", 3)])) (Sum.inr o) with
        | none => intro hv; injection hv with hv; rw [← hv]
        | some y =>
          cases y with
          | int i => intro hv; injection hv with hv; rw [← hv]
          | _ => intro hv; cases hv
      have hs : smallI k = true := by
        unfold smallI
        rw [decide_eq_true (by omega), decide_eq_true (by omega)]
        rfl
      have hit : itRng1 (faCons (fGetLit [("join", 2), ("less", 2), ("same", 2), ("pick", 3)] (fVar 5) (fC (.int 1))) faNil) [some (.d (scriptD ns)), some .st, some (.d (.int m)), some (.d (.int s)), some (.d (.tuple STN)), some (.d (.str o)), some (.cell []), none] (n + 1) = some (intsUp 0 k.toNat, n + 1) := by
        simp [itRng1, faCons, hg, faNil, Sv.arg, hs]
      refine ⟨.tuple [.str o, .tuple rs], n', run_g rfl ?_, by omega, by omega, o, rs, rfl, by rw [q, l3, ← hk], by omega, hlen, l4⟩
      refine g_set (sv := .d (.tuple STN)) (n1 := n) rfl rfl (g_par (a := .d (.str o)) (b := .cell []) (call_ev (as := [.d (scriptD ns), .st, .d (.tuple STN)]) rfl rfl e) rfl rfl rfl (g_run hit (by rw [hup]; show _ ≤ 100000; omega) q2 (g_frz (g_ret rfl))))
  | _ => cases hok
/-! recipes -/
theorem lc_things (ns : List Int) (hn : ns.length ≤ 63) (e : Ev) (h0 : e[0]? = some (some (.d (scriptD ns)))) (h1 : e[1]? = some (some .st)) : ∀ (xs : List PyData) (n : Nat), n + 2 * xs.length < 99000 →
    ∃ ts n', lcL (tgN 2) [2] tT (fCall 2 F_some_thing (faCons (fVar 0) (faCons (fVar 1) faNil))) xs e n = some (ts, n') ∧ n ≤ n' ∧ n' ≤ n + 2 * xs.length ∧ ts.length = xs.length ∧ ∀ t ∈ ts, okT t
  | [], n, _ => ⟨[], n, rfl, by omega, by omega, rfl, fun t h => by cases h⟩
  | x :: xs, n, hb => by
    rw [List.length_cons] at hb
    obtain ⟨t, n1, q, l1, l2, g⟩ := m_some_thing ns hn n (by omega)
    obtain ⟨ts, n2, q2, l3, l4, l5, l6⟩ := lc_things ns hn e h0 h1 xs n1 (by omega)
    refine ⟨t :: ts, n2, ?_, by omega, by rw [List.length_cons]; omega, by rw [List.length_cons, List.length_cons, l5], fun y hy => by
      rcases List.mem_cons.mp hy with h | h
      · rw [h]; exact g
      · exact l6 y h⟩
    have a0 : fVar 0 ((wipeE e [2]).set 2 (some (.d x))) n = some (.d (scriptD ns), n) := by
      unfold fVar
      rw [wipeE, wipeE, List.getElem?_set_ne (by decide), List.getElem?_set_ne (by decide), h0]
    have a1 : fVar 1 ((wipeE e [2]).set 2 (some (.d x))) n = some (.st, n) := by
      unfold fVar
      rw [wipeE, wipeE, List.getElem?_set_ne (by decide), List.getElem?_set_ne (by decide), h1]
    have hc : fCall 2 F_some_thing (faCons (fVar 0) (faCons (fVar 1) faNil)) ((wipeE e [2]).set 2 (some (.d x))) n = some (.d t, n1) := call_ev (as := [.d (scriptD ns), .st]) (by simp [faCons, a0, a1, faNil, Sv.arg]) rfl q
    simp only [lcL, tgN, tT, hc, Sv.take, q2]
theorem steps_loop (ns : List Int) (hn : ns.length ≤ 63) (a : List PyData) (b : Option Sv) (ha : 0 < a.length) : ∀ (xs ss : List PyData) (n : Nat), n + 7 * xs.length < 98000 → ss.length + xs.length ≤ 100 → (∀ (j : Nat) (d : PyData), ss[j]? = some d → goodS a.length j d) →
    ∃ ss' n', forL (tgN 2) [2] (sApp 4 (fCall 4 F_some_step (faCons (fVar 0) (faCons (fVar 1) (faCons (lenS (faCons (fVar 3) faNil)) (faCons (lenS (faCons (fVar 4) faNil)) faNil)))))) xs [some (.d (scriptD ns)), some .st, none, some (.d (.tuple a)), some (.cell ss), b] n = some (.nx, [some (.d (scriptD ns)), some .st, none, some (.d (.tuple a)), some (.cell ss'), b], n') ∧ n ≤ n' ∧ n' ≤ n + 7 * xs.length ∧ ss'.length = ss.length + xs.length ∧ ∀ (j : Nat) (d : PyData), ss'[j]? = some d → goodS a.length j d
  | [], ss, n, _, _, hr => ⟨ss, n, rfl, by omega, by omega, rfl, hr⟩
  | x :: xs, ss, n, h1, h2, hr => by
    rw [List.length_cons] at h1 h2
    obtain ⟨d, n1, q, l1, l2, g⟩ := m_some_step ns hn a.length ss.length n ha (by omega)
    obtain ⟨ss', n2, q2, l3, l4, l5, l6⟩ := steps_loop ns hn a b ha xs (ss ++ [d]) n1 (by omega) (by rw [List.length_append, List.length_singleton]; omega) (fun j y hy => by
      by_cases hj : j < ss.length
      · rw [List.getElem?_append_left hj] at hy
        exact hr j y hy
      · rw [List.getElem?_append_right (by omega)] at hy
        have hl := (List.getElem?_eq_some_iff.mp hy).1
        rw [List.length_singleton] at hl
        have hj0 : j - ss.length = 0 := by omega
        rw [hj0] at hy
        injection hy with hy
        have : j = ss.length := by omega
        rw [← hy, this]
        exact g)
    refine ⟨ss', n2, ?_, by omega, by rw [List.length_cons]; omega, by rw [l5, List.length_append, List.length_singleton, List.length_cons]; omega, l6⟩
    rw [← q2]
    have hbig : ss.length < big := by
      show ss.length < 100000
      omega
    have ht : tgN 2 x [some (.d (scriptD ns)), some .st, none, some (.d (.tuple a)), some (.cell ss), b] = some [some (.d (scriptD ns)), some .st, some (.d x), some (.d (.tuple a)), some (.cell ss), b] := rfl
    have hq : sApp 4 (fCall 4 F_some_step (faCons (fVar 0) (faCons (fVar 1) (faCons (lenS (faCons (fVar 3) faNil)) (faCons (lenS (faCons (fVar 4) faNil)) faNil))))) [some (.d (scriptD ns)), some .st, some (.d x), some (.d (.tuple a)), some (.cell ss), b] n = some (.nx, [some (.d (scriptD ns)), some .st, some (.d x), some (.d (.tuple a)), some (.cell (ss ++ [d])), b], n1) := app_ev (call_ev (as := [.d (scriptD ns), .st, .d (.int a.length), .d (.int ss.length)]) rfl rfl q) rfl hbig
    have hw : wipeE [some (.d (scriptD ns)), some .st, some (.d x), some (.d (.tuple a)), some (.cell (ss ++ [d])), b] [2] = [some (.d (scriptD ns)), some .st, none, some (.d (.tuple a)), some (.cell (ss ++ [d])), b] := rfl
    simp only [forL, ht, hq, hw]
theorem ints_of {k : Nat} : ∀ ys : List PyData, (∀ y ∈ ys, y ∈ intsUp 0 k) → ∃ js : List Nat, ys = js.map (fun (j : Nat) => PyData.int (j : Int)) ∧ ∀ j ∈ js, j < k
  | [], _ => ⟨[], rfl, fun j h => by cases h⟩
  | y :: ys, h => by
    obtain ⟨js, e, hj⟩ := ints_of ys fun z hz => h z (List.mem_cons_of_mem _ hz)
    have hy := h y List.mem_cons_self
    unfold intsUp at hy
    obtain ⟨i, hi, rfl⟩ := List.mem_map.mp hy
    refine ⟨i :: js, ?_, fun j hj' => ?_⟩
    · rw [List.map_cons, ← e]
      congr 2
      omega
    · rcases List.mem_cons.mp hj' with g | g
      · rw [g]; exact List.mem_range.mp hi
      · exact hj j g
theorem shaped_nats (js : List Nat) : SeqAt.shaped (.list (js.map (fun (j : Nat) => PyData.int (j : Int)))) = true := by
  have := shaped_ints (js.map fun (j : Nat) => (j : Int))
  rw [List.map_map] at this
  exact this
theorem sortOk_ints {k : Nat} (hk : k ≤ 1000) : sortOk (intsUp 0 k) = true := by
  unfold sortOk
  have hi : ∀ d ∈ intsUp 0 k, ∃ i : Int, d = .int i := fun d hd => by
    unfold intsUp at hd
    obtain ⟨i, hi, rfl⟩ := List.mem_map.mp hd
    exact ⟨_, rfl⟩
  have hl : (intsUp 0 k).length ≤ big := by
    unfold intsUp
    rw [List.length_map, List.length_range]
    show k ≤ 100000
    omega
  simp only [Bool.and_eq_true, List.all_eq_true, Bool.or_eq_true, decide_eq_true_eq]
  refine ⟨⟨⟨fun a ha b hb => ?_, .inr fun a ha => ?_⟩, fun a ha => ?_⟩, hl⟩
  · obtain ⟨i, rfl⟩ := hi a ha
    obtain ⟨j, rfl⟩ := hi b hb
    rfl
  · obtain ⟨i, rfl⟩ := hi a ha
    rfl
  · obtain ⟨i, rfl⟩ := hi a ha
    rw [PyData.depth]
    omega
structure RecOk (r : PyData) (ts ss ms : List PyData) : Prop where
  eq : r = .tuple [.tuple ts, .tuple ss, .tuple ms]
  t1 : 1 ≤ ts.length
  t3 : ts.length ≤ 3
  th : ∀ t ∈ ts, okT t
  s1 : 1 ≤ ss.length
  s5 : ss.length ≤ 5
  st : ∀ (j : Nat) (d : PyData), ss[j]? = some d → goodS ts.length j d
  md : ms = [.int ((ss.length - 1 : Nat) : Int)] ∨ ∃ j : Nat, j < ss.length - 1 ∧ ms = [.int (j : Int), .int ((ss.length - 1 : Nat) : Int)]
theorem m_some_recipe (ns : List Int) (hn : ns.length ≤ 63) (n : Nat) (hb : n < 90000) : ∃ r n' ts ss ms, F_some_recipe [.d (scriptD ns), .st] n = some (.d r, n') ∧ n ≤ n' ∧ n' ≤ n + 100 ∧ RecOk r ts ss ms := by
  have upl : ∀ k, (intsUp 0 k).length = k := fun k => by unfold intsUp; rw [List.length_map, List.length_range]
  have sm : ∀ k : Nat, k < 100 → smallI (k : Int) = true := fun k hk => by
    unfold smallI
    rw [decide_eq_true (by omega), decide_eq_true (by omega)]
    rfl
  have it1 : ∀ (e : Ev) (f : FE) (n n1 : Nat) (i : Nat), i < 99 → f e n = some (.d (.int i), n1) → itRng1 (faCons (fOp2 addL (fC (.int 1)) f) faNil) e n = some (intsUp 0 (1 + i), n1) := fun e f n n1 i hi h => by
    have h0 : fC (.int 1) e n = some (.d (.int 1), n) := rfl
    have h1 : fOp2 addL (fC (.int 1)) f e n = some (.d (.int ((1 + i : Nat) : Int)), n1) := add_ev h0 h
    simp only [itRng1, faCons, h1, faNil, Sv.arg]
    rw [if_pos (sm (1 + i) (by omega)), Int.toNat_natCast]
  obtain ⟨i, hi, e1⟩ := m_draw ns hn n 3 (by omega) (by omega)
  have c1 : ∀ e : Ev, e[0]? = some (some (.d (scriptD ns))) → e[1]? = some (some .st) → fCall 3 F_draw (faCons (fVar 0) (faCons (fVar 1) (faCons (fC (.int 3)) faNil))) e n = some (.d (.int i), n + 1) := fun e h0 h1 => call_ev (as := [.d (scriptD ns), .st, .d (.int (3 : Nat))]) (by
    have a0 : fVar 0 e n = some (.d (scriptD ns), n) := by unfold fVar; rw [h0]
    have a1 : fVar 1 e n = some (.st, n) := by unfold fVar; rw [h1]
    have a2 : fC (.int 3) e n = some (.d (.int (3 : Nat)), n) := rfl
    simp only [faCons, a0, a1, a2, faNil, Sv.arg]) rfl e1
  obtain ⟨ts, n2, q2, l1, l2, l3, l4⟩ := lc_things ns hn [some (.d (scriptD ns)), some .st, none, none, none, none] rfl rfl (intsUp 0 (1 + i)) (n + 1) (by rw [upl]; omega)
  rw [upl] at l2 l3
  obtain ⟨k, hk, e3⟩ := m_draw ns hn n2 5 (by omega) (by omega)
  obtain ⟨ss, n4, q4, l5, l6, l7, l8⟩ := steps_loop ns hn ts none (by omega) (intsUp 0 (1 + k)) [] (n2 + 1) (by rw [upl]; omega) (by rw [upl]; show 0 + _ ≤ _; omega) (fun j d h => by cases h)
  rw [upl] at l6 l7
  have l7 : ss.length = 1 + k := by
    rw [l7]
    exact Nat.zero_add _
  obtain ⟨c, hc, e5⟩ := m_draw ns hn n4 2 (by omega) (by omega)
  obtain ⟨zs, rest, n6, q6, l9, l10, pm, zl, _⟩ := m_some_of ns hn (n4 + 1) c (intsUp 0 ss.length) (fun ys hy => by
    obtain ⟨js, e, _⟩ := ints_of ys hy
    rw [e]
    exact shaped_nats js) (by rw [upl]; omega) (by rw [upl]; omega) (sortOk_ints (by omega))
  rw [upl] at l10
  have hlist : lenS (faCons (fVar 4) faNil) [some (.d (scriptD ns)), some .st, none, some (.d (.tuple ts)), some (.cell ss), none] n4 = some (.d (.int ss.length), n4) := rfl
  have hrg : fListRg (lenS (faCons (fVar 4) faNil)) [some (.d (scriptD ns)), some .st, none, some (.d (.tuple ts)), some (.cell ss), none] n4 = some (.cell (intsUp 0 ss.length), n4) := by
    show (if 0 ≤ (ss.length : Int) ∧ (ss.length : Int) ≤ (big : Int) then some (Sv.cell (intsUp 0 ((ss.length : Int)).toNat), n4) else none) = _
    have : (big : Int) = 100000 := rfl
    rw [if_pos ⟨by omega, by omega⟩, Int.toNat_natCast]
  have zmem : ∀ y ∈ zs, y ∈ intsUp 0 ss.length := fun y hy => pm.mem_iff.mp (List.mem_append_right _ hy)
  obtain ⟨js, ez, hjs⟩ := ints_of zs zmem
  have hz : sortD zs = zs := by
    match zs, zl with
    | [], _ => simp [sortD]
    | [z], _ => simp [sortD]
    | _ :: _ :: _, h => exact absurd h (by show ¬ (_ + 1 + 1 ≤ c); omega)
  have last : ∃ ms, (ms = [.int ((ss.length - 1 : Nat) : Int)] ∨ ∃ j : Nat, j < ss.length - 1 ∧ ms = [PyData.int (j : Int), .int ((ss.length - 1 : Nat) : Int)]) ∧ ∃ is, intsD (zs ++ [.int ((ss.length : Int) - 1)]) = some is ∧ is.length < 64 ∧ (sortI is).map PyData.int = ms := by
    have eL : (ss.length : Int) - 1 = ((ss.length - 1 : Nat) : Int) := by omega
    rw [eL]
    match js, ez, hjs with
    | [], ez, _ =>
      subst ez
      exact ⟨_, .inl rfl, [((ss.length - 1 : Nat) : Int)], rfl, by simp, by rw [← sortI_eq (ms := [((ss.length - 1 : Nat) : Int)]) (by simp) (by simp)]; rfl⟩
    | [j], ez, hj =>
      subst ez
      have hj := hj j List.mem_cons_self
      by_cases hjl : j = ss.length - 1
      · refine ⟨_, .inl rfl, [(j : Int), ((ss.length - 1 : Nat) : Int)], rfl, by simp, ?_⟩
        rw [← sortI_eq (ms := [((ss.length - 1 : Nat) : Int)]) (by simp) (by intro q; rw [hjl]; simp)]
        rfl
      · refine ⟨_, .inr ⟨j, by omega, rfl⟩, [(j : Int), ((ss.length - 1 : Nat) : Int)], rfl, by simp, ?_⟩
        rw [← sortI_eq (ms := [(j : Int), ((ss.length - 1 : Nat) : Int)]) (by simp; omega) (by intro q; rfl)]
        rfl
    | a :: b :: r, ez, _ =>
      exfalso
      rw [ez, List.length_map] at zl
      exact absurd zl (by show ¬ (_ + 1 + 1 ≤ c); omega)
  obtain ⟨ms, hms, is, hi1, hi2, hi3⟩ := last
  refine ⟨.tuple [.tuple ts, .tuple ss, .tuple ms], n6, ts, ss, ms, run_g rfl ?_, by omega, by omega, rfl, by omega, by omega, l4, by omega, by omega, l8, hms⟩
  refine g_set (sv := .d (.tuple ts)) (n1 := n2) ?_ rfl (g_set (sv := .cell []) (n1 := n2) rfl rfl (g_run (n1 := n2 + 1) (xs := intsUp 0 (1 + k)) ?_ (by rw [upl]; show _ ≤ 100000; omega) q4 (g_set (sv := .d (.tuple zs)) (n1 := n6) ?_ rfl (g_frz (g_ret ?_)))))
  · refine tup_ev (.inl ?_)
    show fLc _ _ _ _ _ [some (.d (scriptD ns)), some .st, none, none, none, none] n = _
    have h0 := it1 [some (.d (scriptD ns)), some .st, none, none, none, none] _ n (n + 1) i (by omega) (c1 [some (.d (scriptD ns)), some .st, none, none, none, none] rfl rfl)
    simp only [fLc, h0, q2]
    rw [if_pos (by rw [upl]; show _ ≤ 100000; omega)]
  · exact it1 _ _ n2 (n2 + 1) k (by omega) (call_ev (as := [.d (scriptD ns), .st, .d (.int (5 : Nat))]) rfl rfl e3)
  · rw [← hz]
    refine call_ev (as := [.d (scriptD ns), .st, .d (.list (intsUp 0 ss.length)), .d (.int c)]) ?_ rfl q6
    have hcall : fCall 3 F_draw (faCons (fVar 0) (faCons (fVar 1) (faCons (fC (.int 2)) faNil))) [some (.d (scriptD ns)), some .st, none, some (.d (.tuple ts)), some (.cell ss), none] n4 = some (.d (.int c), n4 + 1) := call_ev (as := [.d (scriptD ns), .st, .d (.int (2 : Nat))]) rfl rfl e5
    have a0 : fVar 0 [some (.d (scriptD ns)), some .st, none, some (.d (.tuple ts)), some (.cell ss), none] n4 = some (.d (scriptD ns), n4) := rfl
    have a1 : fVar 1 [some (.d (scriptD ns)), some .st, none, some (.d (.tuple ts)), some (.cell ss), none] n4 = some (.st, n4) := rfl
    show faCons _ _ [some (.d (scriptD ns)), some .st, none, some (.d (.tuple ts)), some (.cell ss), none] n4 = _
    simp only [faCons, a0, a1, hrg, hcall, faNil, Sv.arg]
  · have hs : fSortI (faCons (fOp2 addL (fVar 5) (fTup (faCons (fOp2 (seeB subD) (lenS (faCons (fVar 4) faNil)) (fC (.int 1))) faNil))) faNil) [some (.d (scriptD ns)), some .st, none, some (.d (.tuple ts)), some (.d (.list ss)), some (.d (.tuple zs))] n6 = some (.cell ms, n6) := by
      have hT : fTup (faCons (fOp2 (seeB subD) (lenS (faCons (fVar 4) faNil)) (fC (.int 1))) faNil) [some (.d (scriptD ns)), some .st, none, some (.d (.tuple ts)), some (.d (.list ss)), some (.d (.tuple zs))] n6 = some (.d (.tuple [.int ((ss.length : Int) - 1)]), n6) := rfl
      have h5 : fVar 5 [some (.d (scriptD ns)), some .st, none, some (.d (.tuple ts)), some (.d (.list ss)), some (.d (.tuple zs))] n6 = some (.d (.tuple zs), n6) := rfl
      have hadd : fOp2 addL (fVar 5) (fTup (faCons (fOp2 (seeB subD) (lenS (faCons (fVar 4) faNil)) (fC (.int 1))) faNil)) [some (.d (scriptD ns)), some .st, none, some (.d (.tuple ts)), some (.d (.list ss)), some (.d (.tuple zs))] n6 = some (.d (.tuple (zs ++ [.int ((ss.length : Int) - 1)])), n6) := by
        simp only [fOp2, h5, hT, addL, seeB, Sv.see, addD]
        rw [if_pos (by rw [List.length_singleton]; show _ ≤ 100000; omega)]
      simp only [fSortI, faCons, hadd, faNil, Sv.arg, hi1]
      rw [if_pos hi2, hi3]
    have a3 : fVar 3 [some (.d (scriptD ns)), some .st, none, some (.d (.tuple ts)), some (.d (.list ss)), some (.d (.tuple zs))] n6 = some (.d (.tuple ts), n6) := rfl
    have a4 : fBi (see1 tupG) (faCons (fVar 4) faNil) [some (.d (scriptD ns)), some .st, none, some (.d (.tuple ts)), some (.d (.list ss)), some (.d (.tuple zs))] n6 = some (.d (.tuple ss), n6) := rfl
    have a5 := tup_ev (.inl hs)
    show fTup _ [some (.d (scriptD ns)), some .st, none, some (.d (.tuple ts)), some (.d (.list ss)), some (.d (.tuple zs))] n6 = _
    simp only [fTup, faCons, a3, a4, a5, faNil, Sv.arg, keepAll]
    rfl
end Sb
namespace Sb
open PySem PySem.Spec PyProof.Rows L2
/-! ### a generated recipe is one -/
theorem num_in {i lo hi : Int} (h1 : lo ≤ i) (h2 : i ≤ hi) : numD (.int i) lo hi = true := by
  show (decide _ && decide _) = true
  rw [decide_eq_true h1, decide_eq_true h2]
  rfl
theorem goodR_ok {m s : Nat} {r : PyData} (h : goodR m s r) : readingD r m s = true := by
  obtain ⟨w, j, rfl, h⟩ := h
  rcases h with ⟨hw, h⟩ | ⟨hw, h⟩
  · have e : readingD (.tuple [.str w, .int (j : Int)]) m s = numD (.int j) 0 ((m : Int) - 1) := if_pos hw
    rw [e]
    exact num_in (by omega) (by omega)
  · have e : readingD (.tuple [.str w, .int (j : Int)]) m s = (decide (w = ("step" : Str)) && numD (.int j) 0 ((s : Int) - 1)) := if_neg (by rw [hw]; decide)
    rw [e, decide_eq_true hw, Bool.true_and]
    exact num_in (by omega) (by omega)
theorem goodS_ok {m s : Nat} {d : PyData} (h : goodS m s d) : stepD d m s = true := by
  obtain ⟨o, rs, rfl, h1, h2, h3, h4⟩ := h
  show (match lookM mREADINGS' o with
    | some k => tupD (.tuple rs) k k && (seqD (.tuple rs)).all (fun x => readingD x m s)
    | none => false) = true
  rw [h1]
  show (tupD (.tuple rs) (rs.length : Int) (rs.length : Int) && rs.all (fun x => readingD x m s)) = true
  rw [tup_yes (by omega) (by omega), Bool.true_and, List.all_eq_true]
  exact fun x hx => goodR_ok (h4 x hx)
theorem smDs_of : ∀ {ds : List PyData}, (∀ d ∈ ds, smD d = true) → smDs ds = true
  | [], _ => rfl
  | d :: r, h => by
    show (smD d && smDs r) = true
    rw [h d List.mem_cons_self, smDs_of fun x hx => h x (List.mem_cons_of_mem _ hx)]
    rfl
theorem goodS_sm {m s : Nat} {d : PyData} (h : goodS m s d) : smD d = true := by
  obtain ⟨o, rs, rfl, h1, h2, h3, h4⟩ := h
  refine smDs_of fun x hx => ?_
  simp only [List.mem_cons, List.not_mem_nil, or_false] at hx
  rcases hx with rfl | rfl
  · exact decide_eq_true (by omega)
  · refine smDs_of fun x hx => ?_
    obtain ⟨w, j, rfl, h⟩ := h4 x hx
    refine smDs_of fun x hx => ?_
    simp only [List.mem_cons, List.not_mem_nil, or_false] at hx
    rcases hx with rfl | rfl
    · rcases h with ⟨rfl, _⟩ | ⟨rfl, _⟩ <;> decide +kernel
    · rfl
theorem prod_le : ∀ {ts : List PyData}, (∀ t ∈ ts, okT t) → prodD ts ≤ 3 ^ ts.length
  | [], _ => Nat.le_refl _
  | t :: r, h => by
    obtain ⟨es, rfl, _, h3, _⟩ := h t List.mem_cons_self
    have ih := prod_le fun x hx => h x (List.mem_cons_of_mem _ hx)
    rw [prodD, List.length_cons, Nat.pow_succ, Nat.mul_comm]
    exact Nat.mul_le_mul ih h3
variable {r : PyData} {ts ss ms : List PyData}
theorem RecOk.ok (h : RecOk r ts ss ms) : recipeD r = true ∧ smD r = true := by
  obtain ⟨rfl, t1, t3, th, s1, s5, st, md⟩ := h
  constructor
  · show (thingsD (.tuple ts) && (stepsD (.tuple ss) (ts.length : Int) && madeD (.tuple ms) (ss.length : Int))) = true
    have e1 : thingsD (.tuple ts) = true := by
      show (tupD (.tuple ts) 1 5 && ts.all thingD && decide (prodD ts ≤ 256)) = true
      have : prodD ts ≤ 27 := Nat.le_trans (prod_le th) (Nat.le_trans (Nat.pow_le_pow_right (by omega) t3) (by decide))
      rw [tup_yes (by omega) (by omega), decide_eq_true (by omega), List.all_eq_true.mpr fun t ht => by obtain ⟨_, _, _, _, g, _⟩ := th t ht; exact g]
      rfl
    have e2 : stepsD (.tuple ss) (ts.length : Int) = true := by
      show (tupD (.tuple ss) 1 8 && stepsAllD ss (ts.length : Int) 0) = true
      rw [tup_yes (by omega) (by omega), Bool.true_and, stepsAll_iff, List.all_eq_true]
      intro j hj
      have hj := List.mem_range.mp hj
      rw [show 0 + j = j by omega, List.getD_eq_getElem?_getD, List.getElem?_eq_getElem hj]
      exact goodS_ok (st j _ (List.getElem?_eq_getElem hj))
    have e3 : madeD (.tuple ms) (ss.length : Int) = true := by
      rcases md with rfl | ⟨j, hj, rfl⟩
      · show (true && (numD (.int ((ss.length - 1 : Nat) : Int)) 0 ((ss.length : Int) - 1) && true) && true) = true
        rw [num_in (by omega) (by omega)]
        rfl
      · show (true && (numD (.int (j : Int)) 0 ((ss.length : Int) - 1) && (numD (.int ((ss.length - 1 : Nat) : Int)) 0 ((ss.length : Int) - 1) && true)) && (decide ((j : Int) < ((ss.length - 1 : Nat) : Int)) && true)) = true
        rw [num_in (by omega) (by omega), num_in (by omega) (by omega), decide_eq_true (by omega)]
        rfl
    rw [e1, e2, e3]
    rfl
  · refine smDs_of fun x hx => ?_
    simp only [List.mem_cons, List.not_mem_nil, or_false] at hx
    rcases hx with rfl | rfl | rfl
    · exact smDs_of fun t ht => by obtain ⟨_, _, _, _, _, g, _⟩ := th t ht; exact g
    · refine smDs_of fun d hd => ?_
      obtain ⟨j, hj⟩ := List.getElem?_of_mem hd
      exact goodS_sm (st j d hj)
    · rcases md with rfl | ⟨j, hj, rfl⟩ <;> rfl
theorem m_check_recipe (h : recipeD r = true) (hs : smD r = true) (n : Nat) : F_check_recipe [.d r] n = some (.d .none, n) := by
  have hc := notb (call_ev (fa := faCons (fVar 0) faNil) (e := argsE 1 1 [.d r]) (np := 1) (as := [.d r]) rfl rfl (m_is_recipe r n hs))
  rw [h] at hc
  refine run_nx rfl (e' := argsE 1 1 [.d r]) ?_
  show sIf _ _ _ (argsE 1 1 [.d r]) n = _
  rw [if_st hc]
  rfl
/-! ### acts -/
end Sb
namespace Sb
open PySem PySem.Spec PyProof.Rows L2
variable {r : PyData} {ts ss ms : List PyData}
/-! ### all acts -/
theorem ext_ev {i : Nat} {f : FE} {e n n1 xs ys} (h : f e n = some (.cell ys, n1)) (hc : cellAt e i = some xs) (hl : xs.length + ys.length ≤ big) : sExt i f e n = some (.nx, e.set i (some (.cell (xs ++ ys))), n1) := by
  simp [sExt, h, hc, hl]
end Sb
namespace Sb
open PySem PySem.Spec PyProof.Rows L2
/-! ### worlds -/
/-! the program's -/
theorem lcL_cons {tg : FG} {own : List Nat} {t : FT} {f : FE} {x : PyData} {xs ys : List PyData} {e e1 : Ev} {n : Nat} {y : PyData} (ht : tg x (wipeE e own) = some e1) (h1 : t e1 n = some (true, n)) (hf : f e1 n = some (.d y, n)) (ih : lcL tg own t f xs e n = some (ys, n)) : lcL tg own t f (x :: xs) e n = some (y :: ys, n) := by
  simp only [lcL, ht, h1, hf, Sv.take, ih]
end Sb
namespace Sb
open PySem PySem.Spec PyProof.Rows L2
/-! ### texts of small letters -/
def lowZ (z : Str) (k : Nat) : Prop := z.length ≤ k ∧ ∀ c ∈ z.cps.toList, 97 ≤ c ∧ c ≤ 122
theorem lowZ.le {z : Str} {k k' : Nat} (h : lowZ z k) (hk : k ≤ k') : lowZ z k' := ⟨Nat.le_trans h.1 hk, h.2⟩
theorem lowZ_ok {z : Str} {k : Nat} (h : lowZ z k) (hk : k ≤ 100000) : PyData.strOk z = true := by
  unfold PyData.strOk
  rw [Array.all_eq_true']
  intro c hc
  have := h.2 c (Array.mem_toList_iff.mpr hc)
  simp [Nat.isValidChar]
  omega
theorem read_cases {o : Str} {k : Int} (h : lookM mREADINGS' o = some k) : (o = "join" ∧ k = 2) ∨ (o = "sort" ∧ k = 1) ∨ (o = "turn" ∧ k = 1) ∨ (o = "first" ∧ k = 1) ∨ (o = "rest" ∧ k = 1) ∨ (o = "less" ∧ k = 2) ∨ (o = "same" ∧ k = 2) ∨ (o = "pick" ∧ k = 3) := by
  unfold mREADINGS' at h
  simp only [lookM] at h
  repeat' (split at h)
  all_goals (first | (injection h with h; subst h; simp_all) | cases h)
end Sb
namespace Sb
open PySem PySem.Spec PyProof.Rows L2
/-! ### made_by and the law's make -/
theorem sl_ev {f : FE} {a b : FO} {e n} {x : Str} {lo hi : Option Int} (h1 : f e n = some (.d (.str x), n)) (h2 : a e n = some (lo, n)) (h3 : b e n = some (hi, n)) (hl : x.length ≤ big) : fSl f a b e n = some (.d (.str (Txt.slice x lo hi)), n) := by
  simp only [fSl, h1, Sv.see, h2, h3, slD]
  rw [if_pos hl]
theorem strsD_map : ∀ ys : List Str, strsD (ys.map PyData.str) = some ys
  | [] => rfl
  | y :: ys => by
    rw [List.map_cons, strsD, strsD_map ys]
theorem lc_ev' {it : FI} {tg : FG} {own : List Nat} {t : FT} {f : FE} {e n n1 xs ys n2} (h : it e n = some (xs, n1)) (hl : xs.length ≤ big) (q : lcL tg own t f xs e n1 = some (ys, n2)) : fLc it tg own t f e n = some (.cell ys, n2) := by
  simp only [fLc, h, if_pos hl, q]
theorem if_evE {t : FT} {f g : FE} {e n n1 c} {r : Option (Sv × Nat)} (h : t e n = some (c, n1)) (h1 : c = true → f e n1 = r) (h2 : c = false → g e n1 = r) : fIf t f g e n = r := by
  cases c
  · simp only [fIf, h]; exact h2 rfl
  · simp only [fIf, h]; exact h1 rfl
end Sb
namespace Sb
open PySem PySem.Spec PyProof.Rows L2
/-! ### recipes as plain data -/
abbrev Rd := Str × Nat
abbrev Stp := Str × List Rd
def natD (i : Nat) : PyData := .int (i : Int)
def encR (r : Rd) : PyData := .tuple [.str r.1, natD r.2]
def encS (s : Stp) : PyData := .tuple [.str s.1, .tuple (s.2.map encR)]
def encT (t : List Str) : PyData := .tuple (t.map PyData.str)
structure Rc where
  ts : List (List Str)
  ss : List Stp
  ms : List Nat
def Rc.enc (R : Rc) : PyData := .tuple [.tuple (R.ts.map encT), .tuple (R.ss.map encS), .tuple (R.ms.map natD)]
def okRd (m j : Nat) (r : Rd) : Prop := (r.1 = "thing" ∧ r.2 < m) ∨ (r.1 = "step" ∧ r.2 < j)
def okSt (m j : Nat) (s : Stp) : Prop := lookM mREADINGS' s.1 = some (s.2.length : Int) ∧ ∀ r ∈ s.2, okRd m j r
def okTh (t : List Str) : Prop := 1 ≤ t.length ∧ t.length ≤ 4 ∧ ∀ z ∈ t, lowZ z 4
structure Rc.Ok (R : Rc) : Prop where
  t1 : 1 ≤ R.ts.length
  t5 : R.ts.length ≤ 5
  th : ∀ t ∈ R.ts, okTh t
  s1 : 1 ≤ R.ss.length
  s8 : R.ss.length ≤ 8
  st : ∀ (j : Nat) (s : Stp), R.ss[j]? = some s → okSt R.ts.length j s
  m1 : 1 ≤ R.ms.length
  m3 : R.ms.length ≤ 3
  md : ∀ m ∈ R.ms, m < R.ss.length
  rd : recipeD R.enc = true
  sm : smD R.enc = true
theorem list_enc {A : Type} {f : A → PyData} {P : A → Prop} : ∀ ds : List PyData, (∀ d ∈ ds, ∃ x, d = f x ∧ P x) → ∃ xs : List A, ds = xs.map f ∧ ∀ x ∈ xs, P x
  | [], _ => ⟨[], rfl, fun _ h => nomatch h⟩
  | d :: ds, h => by
    obtain ⟨x, rfl, hx⟩ := h d List.mem_cons_self
    obtain ⟨xs, rfl, hxs⟩ := list_enc ds fun e he => h e (List.mem_cons_of_mem _ he)
    exact ⟨x :: xs, rfl, fun y hy => by
      rcases List.mem_cons.mp hy with rfl | hy
      · exact hx
      · exact hxs y hy⟩
theorem list_encI {A : Type} {f : A → PyData} {P : Nat → A → Prop} : ∀ (ds : List PyData) (k : Nat), (∀ (j : Nat) (d : PyData), ds[j]? = some d → ∃ x, d = f x ∧ P (k + j) x) → ∃ xs : List A, ds = xs.map f ∧ ∀ (j : Nat) (x : A), xs[j]? = some x → P (k + j) x
  | [], k, _ => ⟨[], rfl, fun _ _ h => by simp at h⟩
  | d :: ds, k, h => by
    obtain ⟨x, rfl, hx⟩ := h 0 d rfl
    obtain ⟨xs, rfl, hxs⟩ := list_encI (P := P) ds (k + 1) fun j e he => by
      have := h (j + 1) e (by simpa using he)
      rw [show k + (j + 1) = k + 1 + j by omega] at this
      exact this
    refine ⟨x :: xs, rfl, fun j y hy => ?_⟩
    cases j with
    | zero =>
      cases hy
      exact hx
    | succ j =>
      have := hxs j y (by simpa using hy)
      rw [show k + 1 + j = k + (j + 1) by omega] at this
      exact this
theorem text_low {d : PyData} (h : textD d 4 = true) : ∃ z, d = .str z ∧ lowZ z 4 := by
  cases d with
  | str z =>
    have h' : (decide ((z.length : Int) ≤ 4) && z.cps.toList.all letterOk) = true := h
    rw [Bool.and_eq_true, decide_eq_true_eq, List.all_eq_true] at h'
    refine ⟨z, rfl, by omega, fun c hc => ?_⟩
    have := h'.2 c hc
    unfold letterOk at this
    rw [Bool.and_eq_true, decide_eq_true_eq, decide_eq_true_eq] at this
    exact this
  | _ => cases h
theorem RecOk.plain {r : PyData} {ts ss ms : List PyData} (h : RecOk r ts ss ms) : ∃ R : Rc, r = R.enc ∧ R.Ok ∧ ts = R.ts.map encT ∧ ss = R.ss.map encS ∧ ms = R.ms.map natD := by
  obtain ⟨g1, g2⟩ := h.ok
  obtain ⟨rfl, t1, t3, th, s1, s5, st, md⟩ := h
  obtain ⟨xs, ex, hx⟩ := list_enc (f := encT) (P := okTh) ts fun t ht => by
    obtain ⟨es, rfl, a, b, c, _⟩ := th t ht
    have c' : (tupD (.tuple es) 1 4 && es.all (fun x => textD x 4) && ascD es) = true := c
    rw [Bool.and_eq_true, Bool.and_eq_true, List.all_eq_true] at c'
    obtain ⟨zs, rfl, hz⟩ := list_enc (f := PyData.str) (P := fun z => lowZ z 4) es fun d hd => text_low (c'.1.2 d hd)
    rw [List.length_map] at a b
    exact ⟨zs, rfl, a, by omega, hz⟩
  obtain ⟨ys, ey, hy⟩ := list_encI (f := encS) (P := okSt ts.length) ss 0 fun j d hj => by
    rw [Nat.zero_add]
    obtain ⟨o, rs, rfl, a, _, _, b⟩ := st j d hj
    obtain ⟨qs, rfl, hq⟩ := list_enc (f := encR) (P := okRd ts.length j) rs fun x hx => by
      obtain ⟨w, i, rfl, q⟩ := b x hx
      exact ⟨(w, i), rfl, q⟩
    exact ⟨(o, qs), rfl, by rw [List.length_map] at a; exact a, hq⟩
  obtain ⟨zs, ez, hz, hl⟩ : ∃ zs : List Nat, ms = zs.map natD ∧ (∀ m ∈ zs, m < ss.length) ∧ 1 ≤ zs.length ∧ zs.length ≤ 3 := by
    rcases md with rfl | ⟨j, hj, rfl⟩
    · exact ⟨[ss.length - 1], rfl, fun m hm => by rw [List.mem_singleton.mp hm]; omega, by simp, by simp⟩
    · exact ⟨[j, ss.length - 1], rfl, fun m hm => by
        simp only [List.mem_cons, List.not_mem_nil, or_false] at hm
        rcases hm with rfl | rfl <;> omega, by simp, by simp⟩
  subst ex ey ez
  refine ⟨⟨xs, ys, zs⟩, rfl, ⟨?_, ?_, hx, ?_, ?_, fun j s hj => ?_, hl.1, hl.2, ?_, g1, g2⟩, rfl, rfl, rfl⟩
  · rw [List.length_map] at t1; exact t1
  · rw [List.length_map] at t3; exact Nat.le_trans t3 (by decide)
  · rw [List.length_map] at s1; exact s1
  · rw [List.length_map] at s5; exact Nat.le_trans s5 (by decide)
  · have := hy j s hj
    rw [List.length_map, Nat.zero_add] at this
    exact this
  · rw [List.length_map] at hz; exact hz
/-! ### what is read and made -/
def lowL (T : List Str) (k : Nat) : Prop := ∀ z ∈ T, lowZ z k
end Sb
namespace Sb
open PySem PySem.Spec PyProof.Rows L2
/-! ### all_texts, outcome_left -/
section
variable {R : Rc} {al : List PyData} {w : List Nat}
theorem len_big {A : Type} {xs : List A} (h : xs.length ≤ 1000) : xs.length ≤ big := by
  show _ ≤ 100000
  omega
end
end Sb
namespace Sb
open PySem PySem.Spec PyProof.Rows L2
/-! ### the worlds of a recipe; its random acts; equal tuples of texts -/
theorem lay_T {T : List Str} (h : lowL T 40000) : PyData.canLayAll0 (T.map PyData.str) = true ∧ PyData.depthAll (T.map PyData.str) = 0 ∧ PySem.W.alikeAll (T.map PyData.str) (T.map PyData.str) = true := by
  induction T with
  | nil => exact ⟨rfl, by simp [PyData.depthAll], rfl⟩
  | cons z T ih =>
    obtain ⟨a, b, c⟩ := ih fun y hy => h y (List.mem_cons_of_mem _ hy)
    have hz := lowZ_ok (h z List.mem_cons_self) (by omega)
    rw [List.map_cons]
    refine ⟨?_, ?_, ?_⟩
    · rw [PyData.canLayAll0, a, PyData.canLay0, hz]
      rfl
    · rw [PyData.depthAll, b, PyData.depth]
      rfl
    · rw [PySem.W.alikeAll, c]
      rfl
end Sb
namespace Sb
open PySem PySem.Spec PyProof.Rows L2
/-! ### other steps over the same things -/
/-! the same things -/
theorem lay_TT : ∀ ts : List (List Str), (∀ t ∈ ts, okTh t) → PyData.canLayAll0 (ts.map encT) = true ∧ PyData.depthAll (ts.map encT) ≤ 1 ∧ PySem.W.alikeAll (ts.map encT) (ts.map encT) = true
  | [], _ => ⟨rfl, by simp [PyData.depthAll], rfl⟩
  | t :: ts, h => by
    obtain ⟨a, b, c⟩ := lay_TT ts fun u hu => h u (List.mem_cons_of_mem _ hu)
    have hl : lowL t 40000 := fun z hz => ((h t List.mem_cons_self).2.2 z hz).le (by omega)
    obtain ⟨d, e, f⟩ := lay_T hl
    have et : encT t = .tuple (t.map PyData.str) := rfl
    rw [List.map_cons, et]
    refine ⟨?_, ?_, ?_⟩
    · rw [PyData.canLayAll0, a, PyData.canLay0, d]
      rfl
    · rw [PyData.depthAll, PyData.depth, e]
      omega
    · rw [PySem.W.alikeAll, c, PySem.W.alike, f]
      rfl
/-! the law's out -/
end Sb
namespace Sb
open PySem PySem.Spec PyProof.Rows L2
/-! ### what may raise -/
theorem runX_r {N np : Nat} {body : FX} {as : List Sv} {n n' : Nat} {e' : Ev} {v : Sv} (hl : as.length = np) (h : body (argsE N np as) n = some (.fl (.rt v), e', n')) : runFX N np body as n = some (.v v, n') := by
  unfold runFX
  rw [if_pos hl, h]
theorem runX_e {N np : Nat} {body : FX} {as : List Sv} {n n' : Nat} {e' : Ev} {c : Str} (hl : as.length = np) (h : body (argsE N np as) n = some (.ex c, e', n')) : runFX N np body as n = some (.ex c, n') := by
  unfold runFX
  rw [if_pos hl, h]
theorem seqX_n {a b : FX} {e e1 : Ev} {n n1 : Nat} {r : Option (Fx × Ev × Nat)} (h : a e n = some (.fl .nx, e1, n1)) (g : b e1 n1 = r) : xSeq a b e n = r := by
  unfold xSeq
  rw [h]
  exact g
theorem seqX_e {a b : FX} {e e1 : Ev} {n n1 : Nat} {c : Str} (h : a e n = some (.ex c, e1, n1)) : xSeq a b e n = some (.ex c, e1, n1) := by
  unfold xSeq
  rw [h]
theorem retX_v {f : FEX} {e : Ev} {n n1 : Nat} {v : Sv} (h : f e n = some (.v v, n1)) (ho : v.own = true) : xRet f e n = some (.fl (.rt v), e, n1) := by
  unfold xRet
  rw [h]
  dsimp only
  rw [if_pos ho]
theorem retX_e {f : FEX} {e : Ev} {n n1 : Nat} {c : Str} (h : f e n = some (.ex c, n1)) : xRet f e n = some (.ex c, e, n1) := by
  unfold xRet
  rw [h]
theorem callX_ev {F : FFX} {fa : FA} {np : Nat} {e : Ev} {n n1 : Nat} {as : List Sv} {r : Option (Rx × Nat)} (h : fa e n = some (as, n1)) (hl : as.length = np) (hF : F as n1 = r) : fCallX np F fa e n = r := by
  unfold fCallX
  rw [h]
  dsimp only
  rw [if_pos hl]
  exact hF
theorem xV_ev {f : FE} {e : Ev} {n n1 : Nat} {v : Sv} (h : f e n = some (v, n1)) : xV f e n = some (.v v, n1) := by
  unfold xV
  rw [h]
theorem xFl_ev {a : FS} {e e1 : Ev} {n n1 : Nat} {f : Fl} (h : a e n = some (f, e1, n1)) : xFl a e n = some (.fl f, e1, n1) := by
  unfold xFl
  rw [h]
theorem try_e {i : Nat} {b : FX} {g : Str → Option PyData} {e e1 : Ev} {n n1 : Nat} {c : Str} {r : PyData} (h : b e n = some (.ex c, e1, n1)) (hi : i < e1.length) (hg : g c = some r) : Gives (sTry i b g) e n (.d r) n1 := by
  refine ⟨e1, ?_⟩
  unfold sTry
  rw [h]
  dsimp only
  rw [if_pos hi, hg]
theorem try_v {i : Nat} {b : FX} {g : Str → Option PyData} {e e1 : Ev} {n n1 : Nat} {v : Sv} (h : b e n = some (.fl (.rt v), e1, n1)) : Gives (sTry i b g) e n v n1 := by
  refine ⟨e1, ?_⟩
  unfold sTry
  rw [h]
theorem raised_eq (neg : Bool) (i j : Int) : eqD neg (raisedD i) (raisedD j) = some (.bool (decide (i = j) != neg)) := by
  have e1 : PyData.strOk "raised" = true := by decide +kernel
  have sh : ∀ k : Int, SeqAt.shaped (raisedD k) = true := fun k => by simp [raisedD, SeqAt.shaped, PyData.canLay0, PyData.canLayAll0, PyData.depth, PyData.depthAll, e1]
  have ev : PyData.eqv (raisedD i) (raisedD j) = decide (i = j) := by
    unfold raisedD
    simp only [PyData.eqv, PyData.eqvAll, Bool.and_true, beq_self_eq_true, Bool.true_and]
    rw [Bool.eq_iff_iff, beq_iff_eq, decide_eq_true_eq]
  show (if SeqAt.shaped (raisedD i) = true ∧ SeqAt.shaped (raisedD j) = true then some (PyData.bool (PyData.eqv (raisedD i) (raisedD j) != neg)) else none) = _
  rw [if_pos ⟨sh i, sh j⟩, ev]
/-! the checks -/
end Sb
namespace Sb
open PySem PySem.Spec PyProof.Rows L2
/-! ### words for walks -/
theorem fa_c {f : FE} {g : FA} {e : Ev} {n n1 n2 : Nat} {a : Sv} {as : List Sv} (h1 : f e n = some (a, n1)) (h2 : g e n1 = some (as, n2)) : faCons f g e n = some (a.arg :: as, n2) := by
  simp only [faCons, h1, h2]
theorem fa_n {e : Ev} {n : Nat} : faNil e n = some ([], n) := rfl
theorem lst_evR {fa : FA} {e : Ev} {n n1 : Nat} {as : List Sv} {xs : List PyData} (h : fa e n = some (as, n1)) (hk : keepAll as = some xs) (hl : xs.length ≤ 1000) : fLst fa e n = some (.cell xs, n1) := by
  have hb : xs.length ≤ big := Nat.le_trans hl (by decide)
  unfold fLst
  rw [h]
  dsimp only
  rw [hk]
  dsimp only
  rw [if_pos hb]
/-- all of a list that is just made, all true -/
theorem all_map {f : FE} {e : Ev} {n n1 : Nat} {bs : List Bool} (h : f e n = some (.cell (bs.map PyData.bool), n1)) : fBi (see1 allG) (faCons f faNil) e n = some (.d (.bool (bs.all id)), n1) := by
  have hb : ∀ bs : List Bool, bools (bs.map PyData.bool) = some bs := fun bs => by
    induction bs with
    | nil => rfl
    | cons b bs ih =>
      show (match bools (bs.map PyData.bool) with
        | some cs => some (b :: cs)
        | none => none) = _
      rw [ih]
  have e1 : see1 allG [.d (.list (bs.map PyData.bool))] = some (.d (.bool (bs.all id))) := by
    show (match bools (bs.map PyData.bool) with
      | some bs => some (Sv.d (.bool (bs.all id)))
      | none => none) = _
    rw [hb]
  simp only [fBi, faCons, h, faNil, Sv.arg, e1]
end Sb
namespace Sb
open PySem PySem.Spec PyProof.Rows L2
/-! ### a recipe is equal to itself -/
theorem lay_RR {m j : Nat} : ∀ rs : List Rd, (∀ r ∈ rs, okRd m j r) → PyData.canLayAll0 (rs.map encR) = true ∧ PyData.depthAll (rs.map encR) ≤ 1 ∧ PySem.W.alikeAll (rs.map encR) (rs.map encR) = true
  | [], _ => ⟨rfl, by simp [PyData.depthAll], rfl⟩
  | r :: rs, h => by
    obtain ⟨a, b, c⟩ := lay_RR rs fun x hx => h x (List.mem_cons_of_mem _ hx)
    have hw : r.1 = "thing" ∨ r.1 = "step" := (h r List.mem_cons_self).imp (fun z => z.1) fun z => z.1
    have e : encR r = .tuple [.str r.1, .int (r.2 : Int)] := rfl
    have q1 : PyData.canLay0 (.str r.1) = true := by
      rw [PyData.canLay0]
      rcases hw with w | w <;> (rw [w]; decide +kernel)
    rw [List.map_cons, e]
    refine ⟨?_, ?_, ?_⟩
    · rw [PyData.canLayAll0, a, PyData.canLay0, PyData.canLayAll0, q1]
      rfl
    · rw [PyData.depthAll, PyData.depth, PyData.depthAll, PyData.depthAll, PyData.depthAll, PyData.depth, PyData.depth]
      omega
    · rw [PySem.W.alikeAll, c]
      rfl
theorem lay_SS {m : Nat} : ∀ ss : List Stp, (∀ s ∈ ss, ∃ j, okSt m j s) → PyData.canLayAll0 (ss.map encS) = true ∧ PyData.depthAll (ss.map encS) ≤ 3 ∧ PySem.W.alikeAll (ss.map encS) (ss.map encS) = true
  | [], _ => ⟨rfl, by simp [PyData.depthAll], rfl⟩
  | s :: ss, h => by
    obtain ⟨a, b, c⟩ := lay_SS ss fun x hx => h x (List.mem_cons_of_mem _ hx)
    obtain ⟨j, o⟩ := h s List.mem_cons_self
    obtain ⟨d, e, f⟩ := lay_RR s.2 o.2
    have es : encS s = .tuple [.str s.1, .tuple (s.2.map encR)] := rfl
    have q1 : PyData.canLay0 (.str s.1) = true := by
      rw [PyData.canLay0]
      rcases read_cases o.1 with ⟨w, _⟩ | ⟨w, _⟩ | ⟨w, _⟩ | ⟨w, _⟩ | ⟨w, _⟩ | ⟨w, _⟩ | ⟨w, _⟩ | ⟨w, _⟩ <;> (rw [w]; decide +kernel)
    rw [List.map_cons, es]
    refine ⟨?_, ?_, ?_⟩
    · rw [PyData.canLayAll0, a, PyData.canLay0, PyData.canLayAll0, q1, PyData.canLayAll0, PyData.canLay0, d]
      rfl
    · rw [PyData.depthAll, PyData.depth, PyData.depthAll, PyData.depthAll, PyData.depthAll, PyData.depth, PyData.depth]
      omega
    · have f2 : PySem.W.alike (.tuple (s.2.map encR)) (.tuple (s.2.map encR)) = true := by rw [PySem.W.alike]; exact f
      rw [PySem.W.alikeAll, c, PySem.W.alike, PySem.W.alikeAll, PySem.W.alikeAll, PySem.W.alikeAll, f2]
      rfl
theorem lay_NN : ∀ ks : List Nat, PyData.canLayAll0 (ks.map natD) = true ∧ PyData.depthAll (ks.map natD) = 0 ∧ PySem.W.alikeAll (ks.map natD) (ks.map natD) = true
  | [] => ⟨rfl, by simp [PyData.depthAll], rfl⟩
  | k :: ks => by
    obtain ⟨a, b, c⟩ := lay_NN ks
    have e : natD k = .int (k : Int) := rfl
    rw [List.map_cons, e]
    refine ⟨?_, ?_, ?_⟩
    · rw [PyData.canLayAll0, a]
      rfl
    · rw [PyData.depthAll, b, PyData.depth]
      rfl
    · rw [PySem.W.alikeAll, c]
      rfl
end Sb
namespace Sb
open PySem PySem.Spec PyProof.Rows L2
/-! ### texts of recipes, written -/
abbrev tlS (x : Str) : List Nat := x.cps.toList
theorem tl_app (x y : Str) : tlS (x ++ y) = tlS x ++ tlS y := TL.tl_append x y
theorem len_tl (x : Str) : x.length = (tlS x).length := (Array.length_toList).symm
theorem tl_joinS (y : Str) (ps : List Str) : tlS (Txt.join y ps) = TL.joinL (tlS y) (ps.map tlS) := by
  rw [TL.join_eq]
  exact TL.tl_join y ps
theorem joinL_mem (S : List Nat) : ∀ (ps : List (List Nat)) (c : Nat), c ∈ TL.joinL S ps → c ∈ S ∨ ∃ p ∈ ps, c ∈ p
  | [], c, h => nomatch h
  | [p], c, h => .inr ⟨p, List.mem_singleton.mpr rfl, h⟩
  | p :: q :: r, c, h => by
    have h : c ∈ p ++ (S ++ TL.joinL S (q :: r)) := h
    rcases List.mem_append.mp h with h | h
    · exact .inr ⟨p, List.mem_cons_self, h⟩
    · rcases List.mem_append.mp h with h | h
      · exact .inl h
      · rcases joinL_mem S (q :: r) c h with h | ⟨z, hz, hc⟩
        · exact .inl h
        · exact .inr ⟨z, List.mem_cons_of_mem _ hz, hc⟩
theorem mem_joinS {y : Str} {ps : List Str} {c : Nat} (h : c ∈ tlS (Txt.join y ps)) : c ∈ tlS y ∨ ∃ p ∈ ps, c ∈ tlS p := by
  rw [tl_joinS] at h
  rcases joinL_mem _ _ _ h with h | ⟨p, hp, hc⟩
  · exact .inl h
  · obtain ⟨z, hz, rfl⟩ := List.mem_map.mp hp
    exact .inr ⟨z, hz, hc⟩
def szS (y : Str) (ps : List Str) : Nat := (ps.map fun (p : Str) => p.length).sum + ps.length * y.length
theorem joinL_len (S : List Nat) : ∀ ps : List (List Nat), (TL.joinL S ps).length ≤ (ps.map List.length).sum + ps.length * S.length
  | [] => Nat.zero_le _
  | [p] => by
    show p.length ≤ p.length + 0 + 1 * S.length
    omega
  | p :: q :: r => by
    have ih := joinL_len S (q :: r)
    show (p ++ (S ++ TL.joinL S (q :: r))).length ≤ _
    rw [List.length_append, List.length_append, List.map_cons, List.sum_cons, List.length_cons, Nat.add_mul]
    omega
theorem join_len (y : Str) (ps : List Str) : (Txt.join y ps).length ≤ szS y ps := by
  have h := joinL_len (tlS y) (ps.map tlS)
  rw [← tl_joinS, ← len_tl, List.length_map, ← len_tl, List.map_map] at h
  have e : (ps.map (List.length ∘ tlS)) = ps.map fun (p : Str) => p.length := List.map_congr_left fun p _ => (len_tl p).symm
  rw [e] at h
  exact h
theorem sum_leS {b : Nat} : ∀ {ps : List Str}, (∀ p ∈ ps, p.length ≤ b) → (ps.map fun (p : Str) => p.length).sum ≤ b * ps.length
  | [], _ => Nat.zero_le _
  | p :: ps, h => by
    have ih := sum_leS fun q hq => h q (List.mem_cons_of_mem _ hq)
    have := h p List.mem_cons_self
    rw [List.map_cons, List.sum_cons, List.length_cons, Nat.mul_add]
    omega
theorem sz_le {b : Nat} {y : Str} {ps : List Str} (h : ∀ p ∈ ps, p.length ≤ b) : szS y ps ≤ (b + y.length) * ps.length := by
  have := sum_leS h
  unfold szS
  rw [Nat.add_mul, Nat.mul_comm y.length]
  omega
theorem join_evS {f : FE} {e : Ev} {n : Nat} {y : Str} {ps : List Str} {sv : Sv} (h : f e n = some (sv, n)) (hs : sv.arg.see = some (.list (ps.map PyData.str))) (hb : szS y ps ≤ 100000) : fMt "str" joinG (fC (.str y)) (faCons f faNil) e n = some (.d (.str (Txt.join y ps)), n) := by
  have hc : fC (.str y) e n = some (.d (.str y), n) := rfl
  have ht : tyS "str" (.d (.str y)) = true := rfl
  have ha : faCons f faNil e n = some ([sv.arg], n) := by
    simp only [faCons, h, faNil]
  have hj : joinG (.d (.str y)) [sv.arg] = some (.d (.str (Txt.join y ps))) := by
    unfold joinG
    dsimp only
    rw [hs]
    dsimp only
    rw [strsD_map]
    dsimp only
    exact if_pos hb
  simp only [fMt, hc, ht, if_true, ha, hj]
theorem split_evS {f : FE} {e : Ev} {n : Nat} {x y : Str} (h : f e n = some (.d (.str x), n)) (hy : (y.length == 0) = false) (hl : x.length + 2 ≤ 100000) : fMt "str" splitG f (faCons (fC (.str y)) faNil) e n = some (.cell ((Txt.split x y).map PyData.str), n) := by
  have ht : tyS "str" (.d (.str x)) = true := rfl
  have ha : faCons (fC (.str y)) faNil e n = some ([.d (.str y)], n) := rfl
  have hj : splitG (.d (.str x)) [.d (.str y)] = some (.cell ((Txt.split x y).map PyData.str)) := by
    show (if (y.length == 0) = false ∧ x.length + 2 ≤ big then some (Sv.cell ((Txt.split x y).map PyData.str)) else none) = _
    rw [if_pos ⟨hy, hl⟩]
  simp only [fMt, h, ht, if_true, ha, hj]
theorem addS_ev {f g : FE} {e : Ev} {n : Nat} {x y : Str} (h1 : f e n = some (.d (.str x), n)) (h2 : g e n = some (.d (.str y), n)) (hl : x.length + y.length ≤ 100000) : fOp2 addL f g e n = some (.d (.str (x ++ y)), n) := by
  simp only [fOp2, h1, h2, addL, seeB, Sv.see, addD]
  rw [if_pos (show x.length + y.length ≤ big from hl)]
/-! pieces -/
theorem ten {P : Nat → Prop} (h0 : P 0) (h1 : P 1) (h2 : P 2) (h3 : P 3) (h4 : P 4) (h5 : P 5) (h6 : P 6) (h7 : P 7) (h8 : P 8) (h9 : P 9) : ∀ k, k < 10 → P k
  | 0, _ => h0
  | 1, _ => h1
  | 2, _ => h2
  | 3, _ => h3
  | 4, _ => h4
  | 5, _ => h5
  | 6, _ => h6
  | 7, _ => h7
  | 8, _ => h8
  | 9, _ => h9
  | k + 10, h => by omega
def dgS (k : Nat) : Str := Str.ofString (toString ((k : Nat) : Int))
theorem dg_tl {k : Nat} (h : k < 10) : tlS (dgS k) = [48 + k] := (TL.tl_num k).trans (TL.numL_lt h)
theorem dg_len {k : Nat} (h : k < 10) : (dgS k).length = 1 := by rw [len_tl, dg_tl h]; rfl
def sgS (w : Str) : Str := if w = "thing" then "t" else "s"
def rdT (r : Rd) : Str := sgS r.1 ++ dgS r.2
def okR46 (r : Rd) : Prop := (r.1 = "thing" ∨ r.1 = "step") ∧ r.2 < 10
theorem rd_tl {r : Rd} (h : okR46 r) : tlS (rdT r) = (if r.1 = "thing" then [116] else [115]) ++ [48 + r.2] := by
  unfold rdT sgS
  rw [tl_app, dg_tl h.2]
  split <;> rfl
theorem rd_lenS {r : Rd} (h : okR46 r) : (rdT r).length = 2 := by
  rw [len_tl, rd_tl h]
  split <;> rfl
def dsh (z : Str) : Str := if z = "" then "-" else z
def thT (t : List Str) : Str := Txt.join "|" (t.map dsh)
def stT (s : Stp) : Str := Txt.join " " (s.1 :: s.2.map rdT)
def wrP (R : Rc) : List Str := [Txt.join ", " (R.ts.map thT), Txt.join ", " (R.ss.map stT), Txt.join ", " (R.ms.map dgS)]
def wrT (R : Rc) : Str := Txt.join "; " (wrP R)
def okT46 (t : List Str) : Prop := 1 ≤ t.length ∧ t.length ≤ 4 ∧ ∀ z ∈ t, lowZ z 4
theorem dsh_len {z : Str} (h : lowZ z 4) : (dsh z).length ≤ 4 := by
  unfold dsh
  split
  · show 1 ≤ 4
    omega
  · exact h.1
theorem dsh_mem {z : Str} (h : lowZ z 4) {c : Nat} (hc : c ∈ tlS (dsh z)) : c = 45 ∨ (97 ≤ c ∧ c ≤ 122) := by
  unfold dsh at hc
  split at hc
  · have hc : c ∈ [45] := hc
    exact .inl (List.mem_singleton.mp hc)
  · exact .inr (h.2 c hc)
theorem th_sz {t : List Str} (h : okT46 t) : szS "|" (t.map dsh) ≤ 20 := by
  have := sz_le (b := 4) (y := "|") (ps := t.map dsh) fun p hp => by
    obtain ⟨z, hz, rfl⟩ := List.mem_map.mp hp
    exact dsh_len (h.2.2 z hz)
  rw [List.length_map] at this
  have h4 := h.2.1
  have e : ("|" : Str).length = 1 := rfl
  rw [e] at this
  omega
theorem th_len {t : List Str} (h : okT46 t) : (thT t).length ≤ 20 := Nat.le_trans (join_len _ _) (th_sz h)
theorem th_mem {t : List Str} (h : okT46 t) {c : Nat} (hc : c ∈ tlS (thT t)) : c = 124 ∨ c = 45 ∨ (97 ≤ c ∧ c ≤ 122) := by
  rcases mem_joinS hc with hc | ⟨p, hp, hc⟩
  · have hc : c ∈ [124] := hc
    exact .inl (List.mem_singleton.mp hc)
  · obtain ⟨z, hz, rfl⟩ := List.mem_map.mp hp
    exact .inr (dsh_mem (h.2.2 z hz) hc)
structure okS46 (s : Stp) : Prop where
  nm : ∃ k, lookM mREADINGS' s.1 = some k ∧ (s.2.length : Int) = k
  rd : ∀ r ∈ s.2, okR46 r
theorem nm_low {s : Stp} (h : okS46 s) : lowZ s.1 5 ∧ s.2.length ≤ 3 := by
  obtain ⟨k, h1, h2⟩ := h.nm
  rcases read_cases h1 with ⟨w, e⟩ | ⟨w, e⟩ | ⟨w, e⟩ | ⟨w, e⟩ | ⟨w, e⟩ | ⟨w, e⟩ | ⟨w, e⟩ | ⟨w, e⟩ <;> (rw [w]; refine ⟨⟨by decide +kernel, by decide +kernel⟩, by omega⟩)
theorem st_sz {s : Stp} (h : okS46 s) : szS " " (s.1 :: s.2.map rdT) ≤ 24 := by
  obtain ⟨h1, h2⟩ := nm_low h
  have := sz_le (b := 5) (y := " ") (ps := s.1 :: s.2.map rdT) fun p hp => by
    rcases List.mem_cons.mp hp with rfl | hp
    · exact h1.1
    · obtain ⟨r, hr, rfl⟩ := List.mem_map.mp hp
      rw [rd_lenS (h.rd r hr)]
      omega
  rw [List.length_cons, List.length_map] at this
  have e : (" " : Str).length = 1 := rfl
  rw [e] at this
  omega
theorem st_lenS {s : Stp} (h : okS46 s) : (stT s).length ≤ 24 := Nat.le_trans (join_len _ _) (st_sz h)
theorem rd_mem {r : Rd} (h : okR46 r) {c : Nat} (hc : c ∈ tlS (rdT r)) : (48 ≤ c ∧ c ≤ 57) ∨ (97 ≤ c ∧ c ≤ 122) := by
  rw [rd_tl h] at hc
  have := h.2
  rcases List.mem_append.mp hc with hc | hc
  · split at hc
    · rw [List.mem_singleton.mp hc]; omega
    · rw [List.mem_singleton.mp hc]; omega
  · rw [List.mem_singleton.mp hc]
    omega
theorem st_mem {s : Stp} (h : okS46 s) {c : Nat} (hc : c ∈ tlS (stT s)) : c = 32 ∨ (48 ≤ c ∧ c ≤ 57) ∨ (97 ≤ c ∧ c ≤ 122) := by
  rcases mem_joinS hc with hc | ⟨p, hp, hc⟩
  · have hc : c ∈ [32] := hc
    exact .inl (List.mem_singleton.mp hc)
  · rcases List.mem_cons.mp hp with rfl | hp
    · exact .inr (.inr ((nm_low h).1.2 c hc))
    · obtain ⟨r, hr, rfl⟩ := List.mem_map.mp hp
      exact .inr (rd_mem (h.rd r hr) hc)
theorem dg_mem {k : Nat} (h : k < 10) {c : Nat} (hc : c ∈ tlS (dgS k)) : 48 ≤ c ∧ c ≤ 57 := by
  rw [dg_tl h] at hc
  rw [List.mem_singleton.mp hc]
  omega
end Sb
namespace Sb
open PySem PySem.Spec PyProof.Rows L2
/-! ### what the program writes and reads -/
theorem str_eq (neg : Bool) (x y : Str) : eqD neg (.str x) (.str y) = some (.bool (decide (x = y) != neg)) := rfl
theorem m_written_thing {t : List Str} (h : okT46 t) (n : Nat) : F_written_thing [.d (encT t)] n = some (.d (.str (thT t)), n) := by
  have hlc : ∀ (x0 : Option Sv) (t : List Str), lcL (tgN 1) [1] tT (fIf (bT (fOp2 (seeB (eqD false)) (fVar 1) (fC (.str "")))) (fC (.str "-")) (fVar 1)) (t.map PyData.str) [x0, none] n = some ((t.map dsh).map PyData.str, n) := fun x0 t => by
    induction t with
    | nil => rfl
    | cons z t ih =>
      have tt : bT (fOp2 (seeB (eqD false)) (fVar 1) (fC (.str ""))) [x0, some (.d (.str z))] n = some (decide (z = "") != false, n) := bt (cmp_ev (a := .str z) (b := .str "") rfl rfl (str_eq false z ""))
      rw [Bool.bne_false] at tt
      have hf : fIf (bT (fOp2 (seeB (eqD false)) (fVar 1) (fC (.str "")))) (fC (.str "-")) (fVar 1) [x0, some (.d (.str z))] n = some (.d (.str (dsh z)), n) := by
        refine if_evE tt (fun h => ?_) (fun h => ?_)
        · have h := of_decide_eq_true h
          unfold dsh
          rw [if_pos h]
          rfl
        · have h := of_decide_eq_false h
          unfold dsh
          rw [if_neg h]
          rfl
      exact lcL_cons (e1 := [x0, some (.d (.str z))]) rfl rfl hf ih
  have h4 := h.2.1
  have hl := lc_ev' (it := itSee (fVar 0)) (e := [some (.d (encT t)), none]) (n := n) (n1 := n) (xs := t.map PyData.str) rfl (len_big (by rw [List.length_map]; omega)) (hlc (some (.d (encT t))) t)
  have := th_sz h
  exact run_g rfl (g_ret (join_evS hl rfl (by omega)))
theorem rd_sem (x0 x1 x2 : Option Sv) {r : Rd} (h : okR46 r) (n : Nat) : fOp2 addL (fIxS mSIGNS (fVar 3)) (fBi (see1 strIG) (faCons (fVar 4) faNil)) [x0, x1, x2, some (.d (.str r.1)), some (.d (natD r.2))] n = some (.d (.str (rdT r)), n) := by
  have h1 : fIxS mSIGNS (fVar 3) [x0, x1, x2, some (.d (.str r.1)), some (.d (natD r.2))] n = some (.d (.str (sgS r.1)), n) := by
    rcases h.1 with w | w <;> (rw [w]; kernel_rfl)
  have h2 : fBi (see1 strIG) (faCons (fVar 4) faNil) [x0, x1, x2, some (.d (.str r.1)), some (.d (natD r.2))] n = some (.d (.str (dgS r.2)), n) := by
    refine ten (P := fun k => fBi (see1 strIG) (faCons (fVar 4) faNil) [x0, x1, x2, some (.d (.str r.1)), some (.d (natD k))] n = some (.d (.str (dgS k)), n)) ?_ ?_ ?_ ?_ ?_ ?_ ?_ ?_ ?_ ?_ r.2 h.2 <;> kernel_rfl
  have hs : (sgS r.1).length ≤ 1 := by
    unfold sgS
    split <;> exact Nat.le_refl _
  exact addS_ev h1 h2 (by rw [dg_len h.2]; omega)
theorem m_written_step {s : Stp} (h : okS46 s) (n : Nat) : F_written_step [.d (encS s)] n = some (.d (.str (stT s)), n) := by
  have hlc : ∀ (x0 x1 x2 : Option Sv) (rs : List Rd), (∀ r ∈ rs, okR46 r) → lcL (tgT [(tgN 3), (tgN 4)]) [3, 4] tT (fOp2 addL (fIxS mSIGNS (fVar 3)) (fBi (see1 strIG) (faCons (fVar 4) faNil))) (rs.map encR) [x0, x1, x2, none, none] n = some ((rs.map rdT).map PyData.str, n) := fun x0 x1 x2 rs => by
    induction rs with
    | nil => intro _; rfl
    | cons r rs ih => exact fun hr => lcL_cons (e1 := [x0, x1, x2, some (.d (.str r.1)), some (.d (natD r.2))]) rfl rfl (rd_sem x0 x1 x2 (hr r List.mem_cons_self) n) (ih fun x hx => hr x (List.mem_cons_of_mem _ hx))
  have h3 := (nm_low h).2
  let E : Ev := [some (.d (encS s)), some (.d (.str s.1)), some (.d (.tuple (s.2.map encR))), none, none]
  have hl := lc_ev' (it := itSee (fVar 2)) (e := E) (n := n) (n1 := n) (xs := s.2.map encR) rfl (len_big (by rw [List.length_map]; omega)) (hlc _ _ _ s.2 h.rd)
  have hc : fOp2 addL (fLst (faCons (fVar 1) faNil)) (fLc (itSee (fVar 2)) (tgT [(tgN 3), (tgN 4)]) [3, 4] tT (fOp2 addL (fIxS mSIGNS (fVar 3)) (fBi (see1 strIG) (faCons (fVar 4) faNil)))) E n = some (.cell ((s.1 :: s.2.map rdT).map PyData.str), n) := by
    have v : fLst (faCons (fVar 1) faNil) E n = some (.cell [.str s.1], n) := rfl
    have e1 : addL (.cell [.str s.1]) (.cell ((s.2.map rdT).map PyData.str)) = some (.cell ((s.1 :: s.2.map rdT).map PyData.str)) := by
      show (if [PyData.str s.1].length + ((s.2.map rdT).map PyData.str).length ≤ 100000 then some (Sv.cell ([PyData.str s.1] ++ (s.2.map rdT).map PyData.str)) else none) = _
      rw [if_pos (by rw [List.length_map, List.length_map, List.length_singleton]; omega)]
      rfl
    simp only [fOp2, v, hl, e1]
  have := st_sz h
  refine run_g rfl (g_setT (x := encS s) (n1 := n) (e1 := E) rfl rfl (g_ret (join_evS hc rfl (by omega))))
structure ok46 (R : Rc) : Prop where
  t5 : R.ts.length ≤ 5
  s8 : R.ss.length ≤ 8
  m3 : R.ms.length ≤ 3
  ts : ∀ t ∈ R.ts, okT46 t
  ss : ∀ s ∈ R.ss, okS46 s
  ms : ∀ m ∈ R.ms, m < 10
  t1 : R.ts ≠ []
  s1 : R.ss ≠ []
  m1 : R.ms ≠ []
theorem sz0 {R : Rc} (h : ok46 R) : szS ", " (R.ts.map thT) ≤ 110 := by
  have := sz_le (b := 20) (y := ", ") (ps := R.ts.map thT) fun p hp => by
    obtain ⟨z, hz, rfl⟩ := List.mem_map.mp hp
    exact th_len (h.ts z hz)
  rw [List.length_map] at this
  have e : (", " : Str).length = 2 := rfl
  have t5 := h.t5
  rw [e] at this
  omega
theorem sz1 {R : Rc} (h : ok46 R) : szS ", " (R.ss.map stT) ≤ 208 := by
  have := sz_le (b := 24) (y := ", ") (ps := R.ss.map stT) fun p hp => by
    obtain ⟨z, hz, rfl⟩ := List.mem_map.mp hp
    exact st_lenS (h.ss z hz)
  rw [List.length_map] at this
  have e : (", " : Str).length = 2 := rfl
  have t5 := h.s8
  rw [e] at this
  omega
theorem sz2 {R : Rc} (h : ok46 R) : szS ", " (R.ms.map dgS) ≤ 9 := by
  have := sz_le (b := 1) (y := ", ") (ps := R.ms.map dgS) fun p hp => by
    obtain ⟨z, hz, rfl⟩ := List.mem_map.mp hp
    rw [dg_len (h.ms z hz)]
    omega
  rw [List.length_map] at this
  have e : (", " : Str).length = 2 := rfl
  have t5 := h.m3
  rw [e] at this
  omega
theorem part_len {R : Rc} (h : ok46 R) : ∀ p ∈ wrP R, p.length ≤ 208 := by
  unfold wrP
  have a := join_len ", " (R.ts.map thT)
  have b := join_len ", " (R.ss.map stT)
  have c := join_len ", " (R.ms.map dgS)
  have a2 := sz0 h
  have b2 := sz1 h
  have c2 := sz2 h
  exact List.forall_mem_cons.mpr ⟨by omega, List.forall_mem_cons.mpr ⟨by omega, List.forall_mem_cons.mpr ⟨by omega, fun p hp => nomatch hp⟩⟩⟩
theorem sz3 {R : Rc} (h : ok46 R) : szS "; " (wrP R) ≤ 700 := by
  have := sz_le (b := 208) (y := "; ") (ps := wrP R) (part_len h)
  have e : ("; " : Str).length = 2 := rfl
  have e2 : (wrP R).length = 3 := rfl
  rw [e, e2] at this
  omega
theorem wr_len {R : Rc} (h : ok46 R) : (wrT R).length ≤ 700 := Nat.le_trans (join_len _ _) (sz3 h)
theorem m_written {R : Rc} (h : ok46 R) (n : Nat) : F_written [.d R.enc] n = some (.d (.str (wrT R)), n) := by
  let E : Ev := [some (.d R.enc), some (.d (.tuple (R.ts.map encT))), some (.d (.tuple (R.ss.map encS))), some (.d (.tuple (R.ms.map natD))), none, none, none]
  have h1 : ∀ ts : List (List Str), (∀ t ∈ ts, okT46 t) → lcL (tgN 4) [4] tT (fCall 1 F_written_thing (faCons (fVar 4) faNil)) (ts.map encT) E n = some ((ts.map thT).map PyData.str, n) := fun ts => by
    induction ts with
    | nil => intro _; rfl
    | cons t ts ih => exact fun ht => lcL_cons (e1 := E.set 4 (some (.d (encT t)))) rfl rfl (call_ev (F := F_written_thing) (np := 1) (as := [.d (encT t)]) rfl rfl (m_written_thing (ht t List.mem_cons_self) n)) (ih fun x hx => ht x (List.mem_cons_of_mem _ hx))
  have h2 : ∀ ts : List Stp, (∀ t ∈ ts, okS46 t) → lcL (tgN 5) [5] tT (fCall 1 F_written_step (faCons (fVar 5) faNil)) (ts.map encS) E n = some ((ts.map stT).map PyData.str, n) := fun ts => by
    induction ts with
    | nil => intro _; rfl
    | cons t ts ih => exact fun ht => lcL_cons (e1 := E.set 5 (some (.d (encS t)))) rfl rfl (call_ev (F := F_written_step) (np := 1) (as := [.d (encS t)]) rfl rfl (m_written_step (ht t List.mem_cons_self) n)) (ih fun x hx => ht x (List.mem_cons_of_mem _ hx))
  have h3 : ∀ ts : List Nat, (∀ t ∈ ts, t < 10) → lcL (tgN 6) [6] tT (fBi (see1 strIG) (faCons (fVar 6) faNil)) (ts.map natD) E n = some ((ts.map dgS).map PyData.str, n) := fun ts => by
    induction ts with
    | nil => intro _; rfl
    | cons t ts ih => exact fun ht => lcL_cons (e1 := E.set 6 (some (.d (natD t)))) rfl rfl (by
        refine ten (P := fun k => fBi (see1 strIG) (faCons (fVar 6) faNil) (E.set 6 (some (.d (natD k)))) n = some (.d (.str (dgS k)), n)) ?_ ?_ ?_ ?_ ?_ ?_ ?_ ?_ ?_ ?_ t (ht t List.mem_cons_self) <;> kernel_rfl) (ih fun x hx => ht x (List.mem_cons_of_mem _ hx))
  have t5 := h.t5
  have s8 := h.s8
  have m3 := h.m3
  have l1 := lc_ev' (it := itSee (fVar 1)) (e := E) (n := n) (n1 := n) (xs := R.ts.map encT) rfl (len_big (by rw [List.length_map]; omega)) (h1 R.ts h.ts)
  have l2 := lc_ev' (it := itSee (fVar 2)) (e := E) (n := n) (n1 := n) (xs := R.ss.map encS) rfl (len_big (by rw [List.length_map]; omega)) (h2 R.ss h.ss)
  have l3 := lc_ev' (it := itSee (fVar 3)) (e := E) (n := n) (n1 := n) (xs := R.ms.map natD) rfl (len_big (by rw [List.length_map]; omega)) (h3 R.ms h.ms)
  have a := sz0 h
  have b := sz1 h
  have c := sz2 h
  have d := sz3 h
  have j1 := join_evS (y := ", ") l1 rfl (by omega)
  have j2 := join_evS (y := ", ") l2 rfl (by omega)
  have j3 := join_evS (y := ", ") l3 rfl (by omega)
  have hL := lst_evR (fa_c j1 (fa_c j2 (fa_c j3 fa_n))) (xs := (wrP R).map PyData.str) rfl (by show 3 ≤ 1000; omega)
  exact run_g rfl (g_setT (x := R.enc) (n1 := n) (e1 := E) rfl rfl (g_ret (join_evS hL rfl (by omega))))
end Sb
namespace Sb
open PySem PySem.Spec PyProof.Rows L2
/-! ### texts of recipes, read back -/
theorem cut_dr92 (xs : List PyData) : cutD xs (some ((1 : Nat) : Int)) none = xs.drop 1 := by
  unfold cutD
  rw [HT.sIx_none, HT.sIx_nat]
  by_cases h : 1 ≤ xs.length
  · rw [Nat.min_eq_left h, List.take_of_length_le (by rw [List.length_drop]; omega)]
  · rw [Nat.min_eq_right (by omega), List.drop_of_length_le (Nat.le_refl _), List.drop_of_length_le (by omega), List.take_nil]
/-! the whole -/
theorem sep_split {ps : List Str} (hne : ps ≠ []) (hp : ∀ p ∈ ps, 44 ∉ tlS p) : Txt.split (Txt.join ", " ps) ", " = ps := TL.split_join (y := ", ") (s := 44) (S := [32]) rfl (by decide +kernel) hne hp
theorem wr_split {R : Rc} (h : ok46 R) : Txt.split (wrT R) "; " = wrP R := by
  refine TL.split_join (y := "; ") (s := 59) (S := [32]) rfl (by decide +kernel) (List.cons_ne_nil _ _) ?_
  have sep : ∀ c, c ∈ tlS (", " : Str) → c = 44 ∨ c = 32 := fun c hc => by
    have hc : c ∈ [44, 32] := hc
    rcases List.mem_cons.mp hc with h | h
    · exact .inl h
    · exact .inr (List.mem_singleton.mp h)
  unfold wrP
  refine List.forall_mem_cons.mpr ⟨fun hc => ?_, List.forall_mem_cons.mpr ⟨fun hc => ?_, List.forall_mem_cons.mpr ⟨fun hc => ?_, fun p hp => nomatch hp⟩⟩⟩
  · rcases mem_joinS hc with hc | ⟨p, hp, hc⟩
    · rcases sep _ hc with h | h <;> omega
    · obtain ⟨t, ht, rfl⟩ := List.mem_map.mp hp
      rcases th_mem (h.ts t ht) hc with h | h | h <;> omega
  · rcases mem_joinS hc with hc | ⟨p, hp, hc⟩
    · rcases sep _ hc with h | h <;> omega
    · obtain ⟨t, ht, rfl⟩ := List.mem_map.mp hp
      rcases st_mem (h.ss t ht) hc with h | h | h <;> omega
  · rcases mem_joinS hc with hc | ⟨p, hp, hc⟩
    · rcases sep _ hc with h | h <;> omega
    · obtain ⟨t, ht, rfl⟩ := List.mem_map.mp hp
      have := dg_mem (h.ms t ht) hc
      omega
end Sb
namespace Sb
open PySem PySem.Spec PyProof.Rows L2
/-! ### any text read: a recipe that writes it, or a ParseError -/
theorem xif_t {t : FT} {a b : FX} {e : Ev} {n n1 : Nat} (h : t e n = some (true, n1)) : xIf t a b e n = a e n1 := by
  unfold xIf
  rw [h]
theorem xif_f {t : FT} {a b : FX} {e : Ev} {n n1 : Nat} (h : t e n = some (false, n1)) : xIf t a b e n = b e n1 := by
  unfold xIf
  rw [h]
theorem axCons_e {f : FEX} {g : FAX} {e : Ev} {n n1 : Nat} {c : Str} (h : f e n = some (.ex c, n1)) : axCons f g e n = some (.ex c, n1) := by
  unfold axCons
  rw [h]
theorem axCons_v {f : FEX} {g : FAX} {e : Ev} {n n1 n2 : Nat} {a : Sv} {c : Str} (h : f e n = some (.v a, n1)) (k : g e n1 = some (.ex c, n2)) : axCons f g e n = some (.ex c, n2) := by
  unfold axCons
  rw [h]
  show (match g e n1 with | none => none | some (Ax.ex c, n2) => some (Ax.ex c, n2) | some (Ax.v as, n2) => some (Ax.v (a.arg :: as), n2)) = _
  rw [k]
theorem axCons_w {f : FEX} {g : FAX} {e : Ev} {n n1 n2 : Nat} {a : Sv} {as : List Sv} (h : f e n = some (.v a, n1)) (k : g e n1 = some (.v as, n2)) : axCons f g e n = some (.v (a.arg :: as), n2) := by
  unfold axCons
  rw [h]
  show (match g e n1 with | none => none | some (Ax.ex c, n2) => some (Ax.ex c, n2) | some (Ax.v as, n2) => some (Ax.v (a.arg :: as), n2)) = _
  rw [k]
theorem tupX_e {g : FAX} {e : Ev} {n n1 : Nat} {c : Str} (h : g e n = some (.ex c, n1)) : fTupX g e n = some (.ex c, n1) := by
  unfold fTupX
  rw [h]
theorem one_of {z : Str} (h : z.length = 1) : ∃ c, z = ⟨#[c]⟩ := by
  obtain ⟨a⟩ := z
  obtain ⟨l⟩ := a
  match l, h with
  | [c], _ => exact ⟨c, rfl⟩
theorem dg_of {c : Nat} (h : c ∈ tlS ("0123456789" : Str)) : ∃ k, k < 10 ∧ (⟨#[c]⟩ : Str) = dgS k := by
  have h : c ∈ [48, 49, 50, 51, 52, 53, 54, 55, 56, 57] := h
  have hc : 48 ≤ c ∧ c < 58 := by
    simp only [List.mem_cons, List.not_mem_nil, or_false] at h
    omega
  refine ⟨c - 48, by omega, TL.ext_tl ?_⟩
  show [c] = tlS (dgS (c - 48))
  rw [dg_tl (by omega)]
  congr 1
  omega
theorem m_read_numberX {z : Str} (hl : z.length ≤ 100000) (n : Nat) : (∃ k, k < 10 ∧ z = dgS k ∧ X_read_number [.d (.str z)] n = some (.v (.d (natD k)), n)) ∨ ((∀ k, k < 10 → z ≠ dgS k) ∧ X_read_number [.d (.str z)] n = some (.ex "ParseError", n)) := by
  by_cases h : ∃ k, k < 10 ∧ z = dgS k
  · obtain ⟨k, hk, rfl⟩ := h
    refine .inl ⟨k, hk, rfl, ?_⟩
    refine ten (P := fun k => X_read_number [.d (.str (dgS k))] n = some (.v (.d (natD k)), n)) ?_ ?_ ?_ ?_ ?_ ?_ ?_ ?_ ?_ ?_ k hk <;> kernel_rfl
  · refine .inr ⟨fun k hk e => h ⟨k, hk, e⟩, runX_e (e' := [some (.d (.str z))]) rfl (seqX_e ?_)⟩
    have t1 : bT (fOp2 (seeB (eqD true)) (lenS (faCons (fVar 0) faNil)) (fC (.int 1))) [some (.d (.str z))] n = some (decide ((z.length : Int) = 1) != true, n) :=
      bt (cmp_ev (a := .int z.length) (b := .int 1) (len_ev (x := .str z) rfl (by show (if z.length ≤ big then some (Sv.d (PyData.int z.length)) else none) = _; exact if_pos hl)) rfl rfl)
    have t : tOrF (bT (fOp2 (seeB (eqD true)) (lenS (faCons (fVar 0) faNil)) (fC (.int 1)))) (bT (fOp2 (seeB (inSD true)) (fVar 0) (fC (.str "0123456789")))) [some (.d (.str z))] n = some (true, n) := by
      rw [or_t t1]
      by_cases e : (z.length : Int) = 1
      · rw [decide_eq_true e]
        show bT (fOp2 (seeB (inSD true)) (fVar 0) (fC (.str "0123456789"))) [some (.d (.str z))] n = some (true, n)
        obtain ⟨c, rfl⟩ := one_of (by omega : z.length = 1)
        have hc : c ∉ ("0123456789" : Str).cps.toList := fun hc => h (dg_of hc)
        have e2 := PySem.StrLaws.found_one ("0123456789" : Str) c
        rw [decide_eq_false hc] at e2
        refine bt (cmp_ev (a := .str ⟨#[c]⟩) (b := .str "0123456789") rfl rfl ?_)
        show some (PyData.bool ((!(Builtin.Str.occurrences ("0123456789" : Str) ⟨#[c]⟩ 0 ("0123456789" : Str).length 1).isEmpty) != true)) = _
        rw [e2]
        rfl
      · rw [decide_eq_false e]
        rfl
    exact (xif_t t).trans rfl
theorem head_tail {z : Str} (h : 1 ≤ z.length) : tlS (Txt.slice z none (some 1)) = (tlS z).take 1 ∧ tlS (Txt.slice z (some 1) none) = (tlS z).drop 1 := by
  constructor
  · have e := eq_of_beq (slice_closes_toL (x := z) (j := 1) (by decide) (by omega))
    rw [e]
    rfl
  · have e := slice_from_eq (x := z) (i := 1) (b := z.length) (by decide) (by omega) rfl
    rw [e]
    show ((tlS z).drop 1).take ((z.length : Int) - 1).toNat = _
    apply List.take_of_length_le
    rw [List.length_drop, ← len_tl]
    omega
theorem m_read_readingX {z : Str} (hl : z.length ≤ 100000) (n : Nat) : (∃ r, okR46 r ∧ z = rdT r ∧ X_read_reading [.d (.str z)] n = some (.v (.d (encR r)), n)) ∨ ((∀ r, okR46 r → z ≠ rdT r) ∧ X_read_reading [.d (.str z)] n = some (.ex "ParseError", n)) := by
  by_cases h : ∃ r, okR46 r ∧ z = rdT r
  · obtain ⟨⟨w, k⟩, ⟨hw, hk⟩, rfl⟩ := h
    have hw : w = "thing" ∨ w = "step" := hw
    have hk : k < 10 := hk
    refine .inl ⟨(w, k), ⟨hw, hk⟩, rfl, ?_⟩
    rcases hw with rfl | rfl
    · refine ten (P := fun k => X_read_reading [.d (.str (rdT ("thing", k)))] n = some (.v (.d (encR ("thing", k))), n)) ?_ ?_ ?_ ?_ ?_ ?_ ?_ ?_ ?_ ?_ k hk <;> kernel_rfl
    · refine ten (P := fun k => X_read_reading [.d (.str (rdT ("step", k)))] n = some (.v (.d (encR ("step", k))), n)) ?_ ?_ ?_ ?_ ?_ ?_ ?_ ?_ ?_ ?_ k hk <;> kernel_rfl
  · refine .inr ⟨fun r hr e => h ⟨r, hr, e⟩, ?_⟩
    by_cases h0 : z.length = 0
    · obtain ⟨a⟩ := z
      obtain ⟨l⟩ := a
      have e : l = [] := List.eq_nil_of_length_eq_zero h0
      subst e
      kernel_rfl
    obtain ⟨ht, hd⟩ := head_tail (z := z) (by omega)
    have s1 : fSl (fVar 0) oNone (oSome (fC (.int 1))) [some (.d (.str z))] n = some (.d (.str (Txt.slice z none (some 1))), n) := sl_ev rfl rfl rfl hl
    have s2 : fSl (fVar 0) (oSome (fC (.int 1))) oNone [some (.d (.str z))] n = some (.d (.str (Txt.slice z (some 1) none)), n) := sl_ev rfl rfl rfl hl
    have t1 : bT (fInS mKINDS (fSl (fVar 0) oNone (oSome (fC (.int 1))))) [some (.d (.str z))] n = some (!(lookS mKINDS (Txt.slice z none (some 1))).isSome, n) := bt (by unfold fInS; rw [s1])
    cases q : lookS mKINDS (Txt.slice z none (some 1)) with
    | none =>
      rw [q] at t1
      exact runX_e (e' := [some (.d (.str z))]) rfl (seqX_e ((xif_t t1).trans rfl))
    | some w =>
      rw [q] at t1
      have hl2 : (Txt.slice z (some 1) none).length ≤ 100000 := Nat.le_trans (Txt.slice_le z _ _) hl
      rcases m_read_numberX hl2 n with ⟨k, hk, e, _⟩ | ⟨_, e⟩
      · exfalso
        have hw : ∃ r : Rd, okR46 r ∧ tlS (Txt.slice z none (some 1)) = (if r.1 = "thing" then [116] else [115]) ∧ r.2 = k := by
          generalize Txt.slice z none (some 1) = a at q
          unfold mKINDS at q
          unfold lookS at q
          split at q
          · rename_i ea
            exact ⟨("thing", k), ⟨.inl rfl, hk⟩, by rw [← ea]; rfl, rfl⟩
          · unfold lookS at q
            split at q
            · rename_i ea
              exact ⟨("step", k), ⟨.inr rfl, hk⟩, by rw [← ea]; rfl, rfl⟩
            · cases q
        obtain ⟨r, hr, ea, ek⟩ := hw
        subst ek
        refine h ⟨r, hr, TL.ext_tl ?_⟩
        show tlS z = tlS (rdT r)
        have e3 : (tlS z).drop 1 = [48 + r.2] := by rw [← hd, e, dg_tl hk]
        rw [rd_tl hr, ← ea, ht, ← e3, List.take_append_drop]
      · have hc : fCallX 1 X_read_number (faCons (fSl (fVar 0) (oSome (fC (.int 1))) oNone) faNil) [some (.d (.str z))] n = some (.ex "ParseError", n) := by
          exact callX_ev (fa_c s2 fa_n) rfl e
        have hx : fIxS mKINDS (fSl (fVar 0) oNone (oSome (fC (.int 1)))) [some (.d (.str z))] n = some (.d (.str w), n) := by
          unfold fIxS
          rw [s1]
          show (match lookS mKINDS (Txt.slice z none (some 1)) with | some i => some (Sv.d (PyData.str i), n) | none => none) = _
          rw [q]
        refine runX_e (e' := [some (.d (.str z))]) rfl ?_
        refine seqX_n (e1 := [some (.d (.str z))]) (n1 := n) ((xif_f t1).trans rfl) ?_
        refine retX_e ?_
        have hv : xV (fIxS mKINDS (fSl (fVar 0) oNone (oSome (fC (.int 1))))) [some (.d (.str z))] n = some (.v (.d (.str w)), n) := by
          unfold xV
          rw [hx]
        exact tupX_e (axCons_v hv (axCons_e hc))
end Sb
namespace Sb
open PySem PySem.Spec PyProof.Rows L2
/-! ### parts of a text -/
theorem joinL_part (S : List Nat) : ∀ (ps : List (List Nat)) (p : List Nat), p ∈ ps → p.length ≤ (TL.joinL S ps).length
  | [], _, h => nomatch h
  | [q], p, h => by
    rw [List.mem_singleton.mp h]
    exact Nat.le_refl _
  | q :: r :: t, p, h => by
    show p.length ≤ (q ++ (S ++ TL.joinL S (r :: t))).length
    rw [List.length_append, List.length_append]
    rcases List.mem_cons.mp h with rfl | h
    · omega
    · have := joinL_part S (r :: t) p h
      omega
theorem joinL_count (S : List Nat) (hS : 1 ≤ S.length) : ∀ ps : List (List Nat), ps.length ≤ (TL.joinL S ps).length + 1
  | [] => Nat.zero_le _
  | [q] => by simp
  | q :: r :: t => by
    show (r :: t).length + 1 ≤ (q ++ (S ++ TL.joinL S (r :: t))).length + 1
    rw [List.length_append, List.length_append]
    have := joinL_count S hS (r :: t)
    omega
theorem split_back (x y : Str) : Txt.join y (Txt.split x y) = x := by
  refine TL.ext_tl ?_
  show tlS (Txt.join y (Txt.split x y)) = tlS x
  rw [tl_joinS, ← TL.tl_join]
  exact congrArg tlS (PySem.StrLaws.join_split x y)
theorem split_part {x y p : Str} (h : p ∈ Txt.split x y) : p.length ≤ x.length := by
  have e := tl_joinS y (Txt.split x y)
  rw [split_back] at e
  rw [len_tl, len_tl, e]
  exact joinL_part _ _ _ (List.mem_map_of_mem h)
theorem split_count {x y : Str} (hy : 1 ≤ y.length) : (Txt.split x y).length ≤ x.length + 1 := by
  have e := tl_joinS y (Txt.split x y)
  rw [split_back] at e
  rw [len_tl x, e]
  have := joinL_count (tlS y) (by rw [← len_tl]; exact hy) ((Txt.split x y).map tlS)
  rw [List.length_map] at this
  exact this
theorem split_ne (x y : Str) : Txt.split x y ≠ [] := by
  unfold Txt.split
  split
  · exact List.cons_ne_nil _ _
  · split
    · exact List.cons_ne_nil _ _
    · unfold Builtin.Str.partsBetween
      simp
/-! ### a comprehension whose item may raise -/
theorem lcLX_v {tg : FG} {own : List Nat} {t : FT} {f : FEX} {x : PyData} {xs : List PyData} {e e1 : Ev} {n n1 n2 : Nat} {y : PyData} {r : Lx} (h1 : tg x (wipeE e own) = some e1) (h2 : t e1 n = some (true, n)) (h3 : f e1 n = some (.v (.d y), n1)) (h4 : lcLX tg own t f xs e n1 = some (r, n2)) : lcLX tg own t f (x :: xs) e n = some (glue [y] r, n2) := by
  rw [lcLX, h1]
  dsimp only
  rw [h2]
  dsimp only
  rw [h3]
  show (match lcLX tg own t f xs e n1 with | none => none | some (r, n3) => some (glue [y] r, n3)) = _
  rw [h4]
theorem lcLX_e {tg : FG} {own : List Nat} {t : FT} {f : FEX} {x : PyData} {xs : List PyData} {e e1 : Ev} {n n1 : Nat} {c : Str} (h1 : tg x (wipeE e own) = some e1) (h2 : t e1 n = some (true, n)) (h3 : f e1 n = some (.ex c, n1)) : lcLX tg own t f (x :: xs) e n = some (.inr c, n1) := by
  rw [lcLX, h1]
  dsimp only
  rw [h2]
  dsimp only
  rw [h3]
theorem fLcX_v {it : FI} {tg : FG} {own : List Nat} {t : FT} {f : FEX} {e : Ev} {n n1 n2 : Nat} {xs ys : List PyData} (h : it e n = some (xs, n1)) (hl : xs.length ≤ big) (k : lcLX tg own t f xs e n1 = some (.inl ys, n2)) : fLcX it tg own t f e n = some (.v (.cell ys), n2) := by
  unfold fLcX
  rw [h]
  dsimp only
  rw [if_pos hl, k]
theorem fLcX_e {it : FI} {tg : FG} {own : List Nat} {t : FT} {f : FEX} {e : Ev} {n n1 n2 : Nat} {xs : List PyData} {c : Str} (h : it e n = some (xs, n1)) (hl : xs.length ≤ big) (k : lcLX tg own t f xs e n1 = some (.inr c, n2)) : fLcX it tg own t f e n = some (.ex c, n2) := by
  unfold fLcX
  rw [h]
  dsimp only
  rw [if_pos hl, k]
theorem lcX_walk {A : Type} {P : A → Prop} {f : A → PyData} {g : A → Str} {F : FFX} {i : Nat} {E : Ev} {n : Nat} {c : Str} (hv : ∀ d, faCons (fVar i) faNil ((wipeE E [i]).set i (some (.d d))) n = some ([.d d], n)) :
    ∀ ws : List Str, (∀ z ∈ ws, (∃ a, P a ∧ z = g a ∧ F [.d (.str z)] n = some (.v (.d (f a)), n)) ∨ F [.d (.str z)] n = some (.ex c, n)) →
    (∃ as : List A, (∀ a ∈ as, P a) ∧ ws = as.map g ∧ lcLX (tgN i) [i] tT (fCallX 1 F (faCons (fVar i) faNil)) (ws.map PyData.str) E n = some (.inl (as.map f), n)) ∨ lcLX (tgN i) [i] tT (fCallX 1 F (faCons (fVar i) faNil)) (ws.map PyData.str) E n = some (.inr c, n)
  | [], _ => .inl ⟨[], (fun _ h => nomatch h), rfl, rfl⟩
  | z :: ws, h => by
    rcases h z List.mem_cons_self with ⟨a, ha, ez, hz⟩ | hz
    · rcases lcX_walk hv ws fun y hy => h y (List.mem_cons_of_mem _ hy) with ⟨as, has, ews, k⟩ | k
      · refine .inl ⟨a :: as, fun b hb => ?_, by rw [ez, ews]; rfl, ?_⟩
        · rcases List.mem_cons.mp hb with rfl | hb
          · exact ha
          · exact has b hb
        · exact lcLX_v (e1 := (wipeE E [i]).set i (some (.d (.str z)))) rfl rfl (callX_ev (hv (.str z)) rfl hz) k
      · exact .inr (lcLX_v (e1 := (wipeE E [i]).set i (some (.d (.str z)))) (r := .inr c) rfl rfl (callX_ev (hv (.str z)) rfl hz) k)
    · exact .inr (lcLX_e (e1 := (wipeE E [i]).set i (some (.d (.str z)))) rfl rfl (callX_ev (hv (.str z)) rfl hz))
theorem cmp_evS {g : PyData → PyData → Option PyData} {fa fb : FE} {e : Ev} {n n1 n2 : Nat} {sa sb : Sv} {a b z : PyData} (h1 : fa e n = some (sa, n1)) (h2 : fb e n1 = some (sb, n2)) (ha : sa.see = some a) (hb : sb.see = some b) (h3 : g a b = some z) : fOp2 (seeB g) fa fb e n = some (.d z, n2) := by
  simp [fOp2, h1, h2, seeB, ha, hb, h3]
/-! ### a step -/
theorem m_read_stepX {z : Str} (hl : z.length + 2 ≤ 100000) (n : Nat) : (∃ s : Stp, (∀ r ∈ s.2, okR46 r) ∧ z = stT s ∧ X_read_step [.d (.str z)] n = some (.v (.d (encS s)), n)) ∨ X_read_step [.d (.str z)] n = some (.ex "ParseError", n) := by
  obtain ⟨w0, ws, ew⟩ : ∃ w0 ws, Txt.split z " " = w0 :: ws := by
    cases e : Txt.split z " " with
    | nil => exact absurd e (split_ne _ _)
    | cons a b => exact ⟨a, b, rfl⟩
  have hb := split_back z " "
  rw [ew] at hb
  have hc := split_count (x := z) (y := " ") (by decide +kernel)
  rw [ew, List.length_cons] at hc
  have hp : ∀ p ∈ w0 :: ws, p.length ≤ z.length := fun p hp => split_part (by rw [ew]; exact hp)
  let V : List PyData := (w0 :: ws).map PyData.str
  let E : Ev := [some (.d (.str z)), some (.cell V), none]
  have hs : xFl (sAsg 1 (fMt "str" splitG (fVar 0) (faCons (fC (.str " ")) faNil))) [some (.d (.str z)), none, none] n = some (.fl .nx, E, n) := by
    have h1 := split_evS (f := fVar 0) (e := [some (.d (.str z)), none, none]) (n := n) (x := z) (y := " ") rfl (by decide +kernel) hl
    rw [ew] at h1
    have h2 : sAsg 1 (fMt "str" splitG (fVar 0) (faCons (fC (.str " ")) faNil)) [some (.d (.str z)), none, none] n = some (.nx, E, n) := by
      unfold sAsg
      rw [h1]
      rfl
    unfold xFl
    rw [h2]
  have hc2 : fSl (fVar 1) (oSome (fC (.int 1))) oNone E n = some (.cell (cutD V (some ((1 : Nat) : Int)) none), n) := rfl
  rw [cut_dr92] at hc2
  have hc2 : fSl (fVar 1) (oSome (fC (.int 1))) oNone E n = some (.cell (ws.map PyData.str), n) := hc2
  have hit : itSee (fSl (fVar 1) (oSome (fC (.int 1))) oNone) E n = some (ws.map PyData.str, n) := by simp only [itSee, hc2]
  have h0 : fOp2 (seeB ixD) (fVar 1) (fC (.int 0)) E n = some (.d (.str w0), n) := by
    exact cmp_evS (sa := .bor V) (a := .list V) (b := .int ((0 : Nat) : Int)) rfl rfl rfl rfl (int_ix (ds := V) (j := 0) (.inr rfl) rfl)
  have hw := lcX_walk (P := okR46) (f := encR) (g := rdT) (F := X_read_reading) (i := 2) (E := E) (n := n) (c := "ParseError") (fun _ => rfl) ws fun y hy => by
    have h1 := hp y (List.mem_cons_of_mem _ hy)
    rcases m_read_readingX (z := y) (by omega) n with ⟨r, a, b, c⟩ | ⟨_, c⟩
    · exact .inl ⟨r, a, b, c⟩
    · exact .inr c
  have hlen : (ws.map PyData.str).length ≤ big := by
    rw [List.length_map]
    show ws.length ≤ 100000
    omega
  rcases hw with ⟨rs, hr, er, k⟩ | k
  · left
    refine ⟨(w0, rs), hr, ?_, ?_⟩
    · show z = Txt.join " " (w0 :: rs.map rdT)
      rw [← er, hb]
    · have l1 := fLcX_v hit hlen k
      have l2 : fBiX (see1 tupG) (axCons (fLcX (itSee (fSl (fVar 1) (oSome (fC (.int 1))) oNone)) (tgN 2) [2] tT (fCallX 1 X_read_reading (faCons (fVar 2) faNil))) (axV faNil)) E n = some (.v (.d (.tuple (rs.map encR))), n) := by
        unfold fBiX
        rw [axCons_w l1 (show axV faNil E n = some (.v [], n) from rfl)]
        rfl
      have l3 := axCons_w (xV_ev h0) (axCons_w l2 (show axV faNil E n = some (.v [], n) from rfl))
      refine runX_r rfl (seqX_n hs (retX_v ?_ rfl))
      unfold fTupX
      rw [l3]
      rfl
  · right
    have l1 := fLcX_e hit hlen k
    have l2 : fBiX (see1 tupG) (axCons (fLcX (itSee (fSl (fVar 1) (oSome (fC (.int 1))) oNone)) (tgN 2) [2] tT (fCallX 1 X_read_reading (faCons (fVar 2) faNil))) (axV faNil)) E n = some (.ex "ParseError", n) := by
      unfold fBiX
      rw [axCons_e l1]
    exact runX_e rfl (seqX_n hs (retX_e (tupX_e (axCons_v (xV_ev h0) (axCons_e l2)))))
end Sb
namespace Sb
open PySem PySem.Spec PyProof.Rows L2
/-! ### what is_recipe says of a recipe read -/
theorem ba97 {a b : Bool} (h : (a && b) = true) : a = true ∧ b = true := by
  rw [Bool.and_eq_true] at h
  exact h
theorem tup97 {A : Type} {f : A → PyData} {xs : List A} {lo hi : Int} (h : tupD (.tuple (xs.map f)) lo hi = true) : lo ≤ (xs.length : Int) ∧ (xs.length : Int) ≤ hi := by
  have h : (decide (lo ≤ ((xs.map f).length : Int)) && decide (((xs.map f).length : Int) ≤ hi)) = true := h
  rw [List.length_map] at h
  obtain ⟨h1, h2⟩ := ba97 h
  exact ⟨of_decide_eq_true h1, of_decide_eq_true h2⟩
theorem steps97 {m : Int} : ∀ {ss : List Stp} {k : Nat}, stepsAllD (ss.map encS) m k = true → ∀ s ∈ ss, ∃ i, lookM mREADINGS' s.1 = some i ∧ (s.2.length : Int) = i
  | [], _, _, _, h => nomatch h
  | s :: ss, k, h, x, hx => by
    have h : (stepD (encS s) m (k : Int) && stepsAllD (ss.map encS) m (k + 1)) = true := h
    obtain ⟨h1, h2⟩ := ba97 h
    rcases List.mem_cons.mp hx with rfl | hx
    · have h1 : (match lookM mREADINGS' x.1 with
        | some i => tupD (.tuple (x.2.map encR)) i i && (seqD (.tuple (x.2.map encR))).all (fun y => readingD y m (k : Int))
        | none => false) = true := h1
      cases q : lookM mREADINGS' x.1 with
      | none => rw [q] at h1; cases h1
      | some i =>
        rw [q] at h1
        obtain ⟨a, b⟩ := tup97 (ba97 h1).1
        exact ⟨i, rfl, by omega⟩
    · exact steps97 h2 x hx
theorem ok46_rd {R : Rc} (h : recipeD R.enc = true) (hr : ∀ s ∈ R.ss, ∀ r ∈ s.2, okR46 r) (hm : ∀ m ∈ R.ms, m < 10) : ok46 R := by
  have h : (thingsD (.tuple (R.ts.map encT)) && (stepsD (.tuple (R.ss.map encS)) ((seqD (.tuple (R.ts.map encT))).length : Int) && madeD (.tuple (R.ms.map natD)) ((seqD (.tuple (R.ss.map encS))).length : Int))) = true := h
  obtain ⟨ht, h⟩ := ba97 h
  obtain ⟨hs, hmm⟩ := ba97 h
  have ht : (tupD (.tuple (R.ts.map encT)) 1 5 && (R.ts.map encT).all thingD && decide (prodD (R.ts.map encT) ≤ 256)) = true := ht
  obtain ⟨ht, _⟩ := ba97 ht
  obtain ⟨ht, hta⟩ := ba97 ht
  obtain ⟨t1, t5⟩ := tup97 ht
  have hs : (tupD (.tuple (R.ss.map encS)) 1 8 && stepsAllD (R.ss.map encS) _ 0) = true := hs
  obtain ⟨hs, hsa⟩ := ba97 hs
  obtain ⟨s1, s8⟩ := tup97 hs
  have hmm : (tupD (.tuple (R.ms.map natD)) 1 3 && (R.ms.map natD).all _ && ascD (R.ms.map natD)) = true := hmm
  obtain ⟨hmm, _⟩ := ba97 hmm
  obtain ⟨hmm, _⟩ := ba97 hmm
  obtain ⟨m1, m3⟩ := tup97 hmm
  rw [List.all_eq_true] at hta
  refine ⟨by omega, by omega, by omega, fun t htm => ?_, fun s hsm => ⟨steps97 hsa s hsm, hr s hsm⟩, hm, fun e => ?_, fun e => ?_, fun e => ?_⟩
  · have h1 : (tupD (.tuple (t.map PyData.str)) 1 4 && (t.map PyData.str).all (fun x => textD x 4) && ascD (t.map PyData.str)) = true := hta (encT t) (List.mem_map_of_mem htm)
    obtain ⟨h1, _⟩ := ba97 h1
    obtain ⟨h1, h2⟩ := ba97 h1
    obtain ⟨a, b⟩ := tup97 h1
    rw [List.all_eq_true] at h2
    refine ⟨by omega, by omega, fun z hz => ?_⟩
    obtain ⟨y, ey, hy⟩ := text_low (h2 (.str z) (List.mem_map_of_mem hz))
    cases ey
    exact hy
  · rw [e] at t1
    exact absurd t1 (by decide)
  · rw [e] at s1
    exact absurd s1 (by decide)
  · rw [e] at m1
    exact absurd m1 (by decide)
/-! ### a thing -/
def undash (w : Str) : Str := if w = "-" then "" else w
theorem m_read_thingA {z : Str} (hl : z.length + 2 ≤ 100000) (n : Nat) : F_read_thing [.d (.str z)] n = some (.d (encT ((Txt.split z "|").map undash)), n) := by
  have hc := split_count (x := z) (y := "|") (by decide +kernel)
  have hs : fMt "str" splitG (fVar 0) (faCons (fC (.str "|")) faNil) [some (.d (.str z)), none] n = some (.cell ((Txt.split z "|").map PyData.str), n) := split_evS (f := fVar 0) (e := [some (.d (.str z)), none]) (n := n) (x := z) (y := "|") rfl (by decide +kernel) hl
  have hit : itSee (fMt "str" splitG (fVar 0) (faCons (fC (.str "|")) faNil)) [some (.d (.str z)), none] n = some ((Txt.split z "|").map PyData.str, n) := by simp only [itSee, hs]
  have hlc : ∀ (x0 : Option Sv) (t : List Str), lcL (tgN 1) [1] tT (fIf (bT (fOp2 (seeB (eqD false)) (fVar 1) (fC (.str "-")))) (fC (.str "")) (fVar 1)) (t.map PyData.str) [x0, none] n = some ((t.map undash).map PyData.str, n) := fun x0 t => by
    induction t with
    | nil => rfl
    | cons w t ih =>
      have tt : bT (fOp2 (seeB (eqD false)) (fVar 1) (fC (.str "-"))) [x0, some (.d (.str w))] n = some (decide (w = "-") != false, n) := bt (cmp_ev (a := .str w) (b := .str "-") rfl rfl (str_eq false _ "-"))
      rw [Bool.bne_false] at tt
      have hf : fIf (bT (fOp2 (seeB (eqD false)) (fVar 1) (fC (.str "-")))) (fC (.str "")) (fVar 1) [x0, some (.d (.str w))] n = some (.d (.str (undash w)), n) := by
        refine if_evE tt (fun h => ?_) (fun h => ?_)
        · unfold undash
          rw [if_pos (of_decide_eq_true h)]
          rfl
        · unfold undash
          rw [if_neg (of_decide_eq_false h)]
          rfl
      exact lcL_cons (e1 := [x0, some (.d (.str w))]) rfl rfl hf ih
  have hb : ((Txt.split z "|").map PyData.str).length ≤ big := by
    rw [List.length_map]
    show (Txt.split z "|").length ≤ 100000
    omega
  have hl2 := lc_ev' hit hb (hlc (some (.d (.str z))) (Txt.split z "|"))
  exact run_g rfl (g_ret (tup_ev (.inl hl2)))
end Sb
namespace Sb
open PySem PySem.Spec PyProof.Rows L2
theorem asgX_v {i : Nat} {f : FEX} {e : Ev} {n n1 : Nat} {sv : Sv} (h : f e n = some (.v sv, n1)) (ho : sv.own = true) : xAsg i f e n = some (.fl .nx, e.set i (some sv), n1) := by
  unfold xAsg
  rw [h]
  exact if_pos ho
theorem asgX_e {i : Nat} {f : FEX} {e : Ev} {n n1 : Nat} {c : Str} (h : f e n = some (.ex c, n1)) : xAsg i f e n = some (.ex c, e, n1) := by
  unfold xAsg
  rw [h]
theorem asg_ev {i : Nat} {f : FE} {e : Ev} {n n1 : Nat} {sv : Sv} (h : f e n = some (sv, n1)) (ho : sv.own = true) : sAsg i f e n = some (.nx, e.set i (some sv), n1) := by
  unfold sAsg
  rw [h]
  exact if_pos ho
theorem smDs_map {A : Type} {f : A → PyData} : ∀ {xs : List A}, (∀ x ∈ xs, smD (f x) = true) → smDs (xs.map f) = true
  | [], _ => rfl
  | x :: xs, h => by
    show (smD (f x) && smDs (xs.map f)) = true
    rw [h x List.mem_cons_self, smDs_map fun y hy => h y (List.mem_cons_of_mem _ hy)]
    rfl
theorem sm_str {z : Str} (h : z.length ≤ 100000) : smD (.str z) = true := decide_eq_true h
theorem undash_len (w : Str) : (undash w).length ≤ w.length := by
  unfold undash
  split
  · exact Nat.zero_le _
  · exact Nat.le_refl _
theorem op_len (s : Stp) : s.1.length ≤ (stT s).length := by
  rw [len_tl, len_tl]
  unfold stT
  rw [tl_joinS]
  exact joinL_part _ _ _ (List.mem_map_of_mem List.mem_cons_self)
theorem m_parseX {t : Str} (hl : t.length + 2 ≤ 100000) (n : Nat) : (∃ R : Rc, ok46 R ∧ recipeD R.enc = true ∧ smD R.enc = true ∧ t = wrT R ∧ X_parse_recipe [.d (.str t)] n = some (.v (.d R.enc), n)) ∨ X_parse_recipe [.d (.str t)] n = some (.ex "ParseError", n) := by
  let ps := Txt.split t "; "
  have hps : ∀ p ∈ ps, p.length ≤ t.length := fun p hp => split_part hp
  let E : Option Sv → Option Sv → Option Sv → Option Sv → Ev := fun a b c d => [some (.d (.str t)), some (.cell (ps.map PyData.str)), a, b, c, d, none]
  have x1 : xIf (tNotF (bT (fIsi isStr (fVar 0)))) (xRaise "ParseError") (xFl sNx) (argsE 7 1 [.d (.str t)]) n = some (.fl .nx, argsE 7 1 [.d (.str t)], n) := rfl
  have hs := split_evS (f := fVar 0) (e := argsE 7 1 [.d (.str t)]) (n := n) (x := t) (y := "; ") rfl (by decide +kernel) hl
  have x2 : xFl (sAsg 1 (fMt "str" splitG (fVar 0) (faCons (fC (.str "; ")) faNil))) (argsE 7 1 [.d (.str t)]) n = some (.fl .nx, E none none none none, n) := xFl_ev (asg_ev hs rfl)
  have t3 : bT (fOp2 (seeB (eqD true)) (lenS (faCons (fVar 1) faNil)) (fC (.int 3))) (E none none none none) n = some (decide ((ps.length : Int) = 3) != true, n) := by
    have hln : lenS (faCons (fVar 1) faNil) (E none none none none) n = some (.d (.int ((ps.map PyData.str).length : Int)), n) := rfl
    rw [List.length_map] at hln
    exact bt (cmp_ev (a := .int ps.length) (b := .int 3) hln rfl rfl)
  by_cases h3 : (ps.length : Int) = 3
  case neg =>
    right
    rw [decide_eq_false h3] at t3
    exact runX_e rfl (seqX_n x1 (seqX_n x2 (seqX_e ((xif_t t3).trans rfl))))
  rw [decide_eq_true h3] at t3
  have x3 : xIf (bT (fOp2 (seeB (eqD true)) (lenS (faCons (fVar 1) faNil)) (fC (.int 3)))) (xRaise "ParseError") (xFl sNx) (E none none none none) n = some (.fl .nx, E none none none none, n) := (xif_f t3).trans rfl
  obtain ⟨p0, p1, p2, ep⟩ : ∃ a b c, ps = [a, b, c] := by
    match q : ps, h3 with
    | [a, b, c], _ => exact ⟨a, b, c, rfl⟩
    | [], h => exact absurd h (by decide)
    | [_], h => exact absurd h (by simp)
    | [_, _], h => exact absurd h (by simp)
    | _ :: _ :: _ :: _ :: _, h => exact absurd h (by simp only [List.length_cons]; omega)
  have hback := split_back t "; "
  have sp : ∀ (j : Nat) (p : Str) (a b c d : Option Sv), ps[j]? = some p → itSee (fMt "str" splitG (fOp2 (seeB ixD) (fVar 1) (fC (.int (j : Int)))) (faCons (fC (.str ", ")) faNil)) (E a b c d) n = some ((Txt.split p ", ").map PyData.str, n) := fun j p a b c d hj => by
    have hi : fOp2 (seeB ixD) (fVar 1) (fC (.int (j : Int))) (E a b c d) n = some (.d (.str p), n) := cmp_evS (sa := .bor (ps.map PyData.str)) (a := .list (ps.map PyData.str)) (b := .int (j : Int)) rfl rfl rfl rfl (int_ix (ds := ps.map PyData.str) (j := j) (.inr rfl) (by rw [List.getElem?_map, hj]; rfl))
    have h1 := hps p (List.mem_of_getElem? hj)
    have := split_evS (y := ", ") hi (by decide +kernel) (by omega)
    simp only [itSee, this]
  have cnt : ∀ (p : Str), p ∈ ps → ((Txt.split p ", ").map PyData.str).length ≤ big := fun p hp => by
    rw [List.length_map]
    have h1 := split_count (x := p) (y := ", ") (by decide +kernel)
    have h2 := hps p hp
    show (Txt.split p ", ").length ≤ 100000
    omega
  have m0 : p0 ∈ ps := by rw [ep]; simp
  have m1 : p1 ∈ ps := by rw [ep]; simp
  have m2 : p2 ∈ ps := by rw [ep]; simp
  -- the things
  let ts := (Txt.split p0 ", ").map fun w => (Txt.split w "|").map undash
  have c0 : ∀ ws : List Str, (∀ w ∈ ws, w.length ≤ t.length) → lcL (tgN 6) [6] tT (fCall 1 F_read_thing (faCons (fVar 6) faNil)) (ws.map PyData.str) (E none none none none) n = some ((ws.map fun w => (Txt.split w "|").map undash).map encT, n) := fun ws => by
    induction ws with
    | nil => intro _; rfl
    | cons w ws ih => exact fun hw => lcL_cons (e1 := (E none none none none).set 6 (some (.d (.str w)))) rfl rfl (call_ev (F := F_read_thing) (np := 1) (as := [.d (.str w)]) rfl rfl (m_read_thingA (by have := hw w List.mem_cons_self; omega) n)) (ih fun x hx => hw x (List.mem_cons_of_mem _ hx))
  have le0 : ∀ p ∈ ps, ∀ w ∈ Txt.split p ", ", w.length ≤ t.length := fun p hp w hw => Nat.le_trans (split_part hw) (hps p hp)
  have l0 := lc_ev' (sp 0 p0 none none none none (by rw [ep]; rfl)) (cnt p0 m0) (c0 _ (le0 p0 m0))
  let T : Option Sv := some (.cell (ts.map encT))
  have x4 : xFl (sAsg 2 (fLc (itSee (fMt "str" splitG (fOp2 (seeB ixD) (fVar 1) (fC (.int 0))) (faCons (fC (.str ", ")) faNil))) (tgN 6) [6] tT (fCall 1 F_read_thing (faCons (fVar 6) faNil)))) (E none none none none) n = some (.fl .nx, E T none none none, n) := xFl_ev (asg_ev l0 rfl)
  -- the steps
  have i1 := sp 1 p1 T none none none (by rw [ep]; rfl)
  rcases lcX_walk (P := fun s : Stp => ∀ r ∈ s.2, okR46 r) (f := encS) (g := stT) (F := X_read_step) (i := 6) (E := E T none none none) (n := n) (c := "ParseError") (fun _ => rfl) (Txt.split p1 ", ") (fun y hy => by
    have h1 := le0 p1 m1 y hy
    rcases m_read_stepX (z := y) (by omega) n with ⟨s, a, b, c⟩ | c
    · exact .inl ⟨s, a, b, c⟩
    · exact .inr c) with ⟨ss, hss, ess, k1⟩ | k1
  case inr => exact .inr (runX_e rfl (seqX_n x1 (seqX_n x2 (seqX_n x3 (seqX_n x4 (seqX_e (asgX_e (fLcX_e i1 (cnt p1 m1) k1))))))))
  let S : Option Sv := some (.cell (ss.map encS))
  have x5 := asgX_v (i := 3) (fLcX_v i1 (cnt p1 m1) k1) rfl
  -- the numbers
  have i2 := sp 2 p2 T S none none (by rw [ep]; rfl)
  rcases lcX_walk (P := fun k : Nat => k < 10) (f := natD) (g := dgS) (F := X_read_number) (i := 6) (E := E T S none none) (n := n) (c := "ParseError") (fun _ => rfl) (Txt.split p2 ", ") (fun y hy => by
    have h1 := le0 p2 m2 y hy
    rcases m_read_numberX (z := y) (by omega) n with ⟨s, a, b, c⟩ | ⟨_, c⟩
    · exact .inl ⟨s, a, b, c⟩
    · exact .inr c) with ⟨ms, hms, ems, k2⟩ | k2
  case inr => exact .inr (runX_e rfl (seqX_n x1 (seqX_n x2 (seqX_n x3 (seqX_n x4 (seqX_n x5 (seqX_e (asgX_e (fLcX_e i2 (cnt p2 m2) k2)))))))))
  let M : Option Sv := some (.cell (ms.map natD))
  have x6 := asgX_v (i := 4) (fLcX_v i2 (cnt p2 m2) k2) rfl
  let R : Rc := ⟨ts, ss, ms⟩
  have hsm : smD R.enc = true := by
    have a : smD (.tuple (ts.map encT)) = true := smDs_map fun x hx => by
      obtain ⟨w, hw, rfl⟩ := List.mem_map.mp hx
      have h1 := le0 p0 m0 w hw
      refine smDs_map fun y hy => ?_
      obtain ⟨v, hv, rfl⟩ := List.mem_map.mp hy
      have h2 := undash_len v
      have h3 := split_part hv
      exact sm_str (by omega)
    have b : smD (.tuple (ss.map encS)) = true := smDs_map fun x hx => by
      have h1 := op_len x
      have h2 := le0 p1 m1 (stT x) (by rw [ess]; exact List.mem_map_of_mem hx)
      have h3 : smD (.tuple (x.2.map encR)) = true := smDs_map fun r hr => by
        have h4 : smD (.str r.1) = true := by
          rcases (hss x hx r hr).1 with h | h
          · rw [h]; decide +kernel
          · rw [h]; decide +kernel
        show (smD (.str r.1) && (smD (natD r.2) && true)) = true
        rw [h4]
        rfl
      show (smD (.str x.1) && (smD (.tuple (x.2.map encR)) && true)) = true
      rw [sm_str (by omega), h3]
      rfl
    have c : smD (.tuple (ms.map natD)) = true := smDs_map fun x _ => rfl
    show (smD (.tuple (ts.map encT)) && (smD (.tuple (ss.map encS)) && (smD (.tuple (ms.map natD)) && true))) = true
    rw [a, b, c]
    rfl
  have x7 : xFl (sAsg 5 (fTup (faCons (fBi (see1 tupG) (faCons (fVar 2) faNil)) (faCons (fBi (see1 tupG) (faCons (fVar 3) faNil)) (faCons (fBi (see1 tupG) (faCons (fVar 4) faNil)) faNil))))) (E T S M none) n = some (.fl .nx, E T S M (some (.d R.enc)), n) := xFl_ev (asg_ev (sv := .d R.enc) rfl rfl)
  have hrec := m_is_recipe R.enc n hsm
  have t1 := notb (call_ev (F := F_is_recipe) (np := 1) (fa := faCons (fVar 5) faNil) (e := E T S M (some (.d R.enc))) (n := n) (as := [.d R.enc]) rfl rfl hrec)
  cases hrd : recipeD R.enc with
  | false =>
    right
    rw [hrd] at t1
    exact runX_e rfl (seqX_n x1 (seqX_n x2 (seqX_n x3 (seqX_n x4 (seqX_n x5 (seqX_n x6 (seqX_n x7 (seqX_e ((xif_t ((or_t t1).trans rfl)).trans rfl)))))))))
  | true =>
    rw [hrd] at t1
    have h46 : ok46 R := ok46_rd hrd hss hms
    have t2 := bt (cmp_ev (g := eqD true) (fb := fVar 0) (n2 := n) (call_ev (F := F_written) (np := 1) (fa := faCons (fVar 5) faNil) (e := E T S M (some (.d R.enc))) (n := n) (as := [.d R.enc]) rfl rfl (m_written h46 n)) (b := .str t) rfl (str_eq true _ _))
    by_cases hw : wrT R = t
    · left
      rw [decide_eq_true hw] at t2
      exact ⟨R, h46, hrd, hsm, hw.symm, runX_r rfl (seqX_n x1 (seqX_n x2 (seqX_n x3 (seqX_n x4 (seqX_n x5 (seqX_n x6 (seqX_n x7 (seqX_n ((xif_f (((or_t t1).trans (if_neg Bool.false_ne_true)).trans t2)).trans rfl) (xFl_ev rfl)))))))))⟩
    · right
      rw [decide_eq_false hw] at t2
      exact runX_e rfl (seqX_n x1 (seqX_n x2 (seqX_n x3 (seqX_n x4 (seqX_n x5 (seqX_n x6 (seqX_n x7 (seqX_e ((xif_t (((or_t t1).trans (if_neg Bool.false_ne_true)).trans t2)).trans rfl)))))))))
end Sb
namespace Sb
open PySem PySem.Spec PyProof.Rows L2
/-! ### read: a recipe that writes the text, or ('raised', 14) -/
theorem m_read {t : Str} (hl : t.length + 2 ≤ 100000) (n : Nat) : (∃ R : Rc, ok46 R ∧ recipeD R.enc = true ∧ smD R.enc = true ∧ t = wrT R ∧ F_read [.d (.str t)] n = some (.d R.enc, n)) ∨ F_read [.d (.str t)] n = some (.d (raisedD 14), n) := by
  rcases m_parseX hl n with ⟨R, a, b, c, d, e⟩ | e
  · left
    refine ⟨R, a, b, c, d, run_g rfl (try_v (retX_v (callX_ev (as := [.d (.str t)]) rfl rfl e) rfl))⟩
  · right
    exact run_g rfl (try_e (retX_e (callX_ev (as := [.d (.str t)]) rfl rfl e)) (show 1 < 2 by decide) rfl)
/-- what no recipe writes is refused -/
theorem m_read_bad {t : Str} (hl : t.length + 2 ≤ 100000) (hb : ∀ R : Rc, ok46 R → recipeD R.enc = true → wrT R ≠ t) (n : Nat) : F_read [.d (.str t)] n = some (.d (raisedD 14), n) := by
  rcases m_read hl n with ⟨R, a, b, _, d, _⟩ | e
  · exact absurd d.symm (hb R a b)
  · exact e
theorem m_read_none (n : Nat) : F_read [.d .none] n = some (.d (raisedD 14), n) := rfl
theorem m_read_five (n : Nat) : F_read [.d (.int 5)] n = some (.d (raisedD 14), n) := rfl
/-! ### texts that no recipe writes -/
theorem wrP_semi {R : Rc} (h : ok46 R) : ∀ p ∈ wrP R, 59 ∉ tlS p := by
  have sep : ∀ c, c ∈ tlS (", " : Str) → c = 44 ∨ c = 32 := fun c hc => by
    have hc : c ∈ [44, 32] := hc
    rcases List.mem_cons.mp hc with h | h
    · exact .inl h
    · exact .inr (List.mem_singleton.mp h)
  unfold wrP
  refine List.forall_mem_cons.mpr ⟨fun hc => ?_, List.forall_mem_cons.mpr ⟨fun hc => ?_, List.forall_mem_cons.mpr ⟨fun hc => ?_, fun p hp => nomatch hp⟩⟩⟩
  · rcases mem_joinS hc with hc | ⟨p, hp, hc⟩
    · rcases sep _ hc with h | h <;> omega
    · obtain ⟨t, ht, rfl⟩ := List.mem_map.mp hp
      rcases th_mem (h.ts t ht) hc with h | h | h <;> omega
  · rcases mem_joinS hc with hc | ⟨p, hp, hc⟩
    · rcases sep _ hc with h | h <;> omega
    · obtain ⟨t, ht, rfl⟩ := List.mem_map.mp hp
      rcases st_mem (h.ss t ht) hc with h | h | h <;> omega
  · rcases mem_joinS hc with hc | ⟨p, hp, hc⟩
    · rcases sep _ hc with h | h <;> omega
    · obtain ⟨t, ht, rfl⟩ := List.mem_map.mp hp
      have := dg_mem (h.ms t ht) hc
      omega
/-- a text whose signs hold no ';' -/
theorem bad_semi {t : Str} (h : 59 ∉ tlS t) (R : Rc) (hR : ok46 R) : wrT R ≠ t := fun e => by
  refine h ?_
  rw [← e]
  unfold wrT wrP
  rw [tl_joinS]
  show 59 ∈ _ ++ (([59, 32] : List Nat) ++ _)
  simp
theorem joinL_last (S : List Nat) : ∀ (ps : List (List Nat)) (h : ps ≠ []), ∃ pre, TL.joinL S ps = pre ++ ps.getLast h
  | [], h => absurd rfl h
  | [q], _ => ⟨[], rfl⟩
  | q :: r :: t, _ => by
    obtain ⟨pre, e⟩ := joinL_last S (r :: t) (List.cons_ne_nil _ _)
    refine ⟨q ++ (S ++ pre), ?_⟩
    show q ++ (S ++ TL.joinL S (r :: t)) = _
    rw [e, List.getLast_cons (List.cons_ne_nil _ _)]
    simp only [List.append_assoc]
theorem wr_last {R : Rc} (hR : ok46 R) : ∃ pre k, k < 10 ∧ tlS (wrT R) = pre ++ [48 + k] := by
  have hm := hR.m1
  obtain ⟨p1, e1⟩ := joinL_last (tlS "; ") ((wrP R).map tlS) (by unfold wrP; exact List.cons_ne_nil _ _)
  obtain ⟨p2, e2⟩ := joinL_last (tlS ", ") ((R.ms.map dgS).map tlS) (by intro e; exact hm (List.map_eq_nil_iff.mp (List.map_eq_nil_iff.mp e)))
  have hk := hR.ms (R.ms.getLast hm) (List.getLast_mem hm)
  refine ⟨p1 ++ p2, R.ms.getLast hm, hk, ?_⟩
  have l1 : ((wrP R).map tlS).getLast (by unfold wrP; exact List.cons_ne_nil _ _) = tlS (Txt.join ", " (R.ms.map dgS)) := rfl
  have l2 : ((R.ms.map dgS).map tlS).getLast (by intro e; exact hm (List.map_eq_nil_iff.mp (List.map_eq_nil_iff.mp e))) = [48 + R.ms.getLast hm] := by
    rw [List.getLast_map, List.getLast_map, dg_tl hk]
  unfold wrT
  rw [tl_joinS, e1, l1, tl_joinS, e2, l2, List.append_assoc]
theorem bad_last {R : Rc} (hR : ok46 R) {t : Str} {c : Nat} (hc : ¬ (48 ≤ c ∧ c < 58)) : wrT R ≠ t ++ ⟨#[c]⟩ := fun e => by
  obtain ⟨pre, k, hk, e1⟩ := wr_last hR
  rw [e, tl_app] at e1
  have e2 := congrArg List.getLast? e1
  rw [List.getLast?_append, List.getLast?_append] at e2
  have e3 : some c = some (48 + k) := e2
  have e4 := Option.some.inj e3
  omega
/-- "; 0" behind it: four parts -/
theorem bad_part {R R0 : Rc} (hR : ok46 R) (h0 : ok46 R0) : wrT R ≠ wrT R0 ++ "; 0" := fun e => by
  have h4 : Txt.join "; " (wrP R0 ++ [("0" : Str)]) = wrT R0 ++ "; 0" := by
    refine TL.ext_tl ?_
    show tlS _ = tlS (wrT R0 ++ "; 0")
    rw [tl_app]
    unfold wrT wrP
    rw [tl_joinS, tl_joinS]
    show _ ++ (([59, 32] : List Nat) ++ (_ ++ ([59, 32] ++ (_ ++ ([59, 32] ++ [48]))))) = (_ ++ (([59, 32] : List Nat) ++ (_ ++ ([59, 32] ++ _)))) ++ [59, 32, 48]
    simp
    rfl
  have h5 := wr_split hR
  rw [e, ← h4] at h5
  have h6 : Txt.split (Txt.join "; " (wrP R0 ++ [("0" : Str)])) "; " = wrP R0 ++ [("0" : Str)] := by
    refine TL.split_join (y := "; ") (s := 59) (S := [32]) rfl (by decide +kernel) (by simp) fun p hp => ?_
    rcases List.mem_append.mp hp with hp | hp
    · exact wrP_semi h0 p hp
    · rw [List.mem_singleton.mp hp]
      decide +kernel
  rw [h6] at h5
  have := congrArg List.length h5
  unfold wrP at this
  simp at this
end Sb
namespace Sb
open PySem PySem.Spec PyProof.Rows L2
/-! ### the first sign -/
theorem joinL_first (S : List Nat) {c : Nat} {r : List Nat} : ∀ (ps : List (List Nat)), ∃ r', TL.joinL S ((c :: r) :: ps) = c :: r'
  | [] => ⟨r, rfl⟩
  | q :: t => ⟨r ++ (S ++ TL.joinL S (q :: t)), rfl⟩
theorem dsh_first {z : Str} (h : lowZ z 4) : ∃ c r, tlS (dsh z) = c :: r ∧ (c = 45 ∨ (97 ≤ c ∧ c ≤ 122)) := by
  cases e : tlS (dsh z) with
  | nil =>
    exfalso
    unfold dsh at e
    by_cases hz : z = ""
    · rw [if_pos hz] at e
      cases e
    · rw [if_neg hz] at e
      exact hz (TL.ext_tl e)
  | cons c r => exact ⟨c, r, rfl, dsh_mem h (by rw [e]; exact List.mem_cons_self)⟩
theorem wr_first {R : Rc} (hR : ok46 R) : ∃ c r, tlS (wrT R) = c :: r ∧ (c = 45 ∨ (97 ≤ c ∧ c ≤ 122)) := by
  have ht := hR.ts
  have h1 := hR.t1
  cases et : R.ts with
  | nil => exact absurd et h1
  | cons t ts =>
    rw [et] at ht
    obtain ⟨l1, _, hz⟩ := ht t List.mem_cons_self
    cases ez : t with
    | nil => rw [ez] at l1; exact absurd l1 (by decide)
    | cons z zs =>
      rw [ez] at hz
      obtain ⟨c, r, e, hc⟩ := dsh_first (hz z List.mem_cons_self)
      obtain ⟨r1, e1⟩ := joinL_first (tlS "|") (c := c) (r := r) ((zs.map dsh).map tlS)
      obtain ⟨r2, e2⟩ := joinL_first (tlS ", ") (c := c) (r := r1) ((ts.map thT).map tlS)
      obtain ⟨r3, e3⟩ := joinL_first (tlS "; ") (c := c) (r := r2) ([Txt.join ", " (R.ss.map stT), Txt.join ", " (R.ms.map dgS)].map tlS)
      refine ⟨c, r3, ?_, hc⟩
      have a1 : tlS (thT t) = c :: r1 := by
        unfold thT
        rw [tl_joinS, ez]
        show TL.joinL (tlS "|") (tlS (dsh z) :: (zs.map dsh).map tlS) = _
        rw [e, e1]
      have a2 : tlS (Txt.join ", " (R.ts.map thT)) = c :: r2 := by
        rw [tl_joinS, et]
        show TL.joinL (tlS ", ") (tlS (thT t) :: (ts.map thT).map tlS) = _
        rw [a1, e2]
      unfold wrT wrP
      rw [tl_joinS]
      show TL.joinL (tlS "; ") (tlS (Txt.join ", " (R.ts.map thT)) :: _) = _
      rw [a2]
      exact e3
theorem bad_first {R : Rc} (hR : ok46 R) {t : Str} : wrT R ≠ " " ++ t := fun e => by
  obtain ⟨c, r, e1, hc⟩ := wr_first hR
  rw [e, tl_app] at e1
  have e2 : (32 : Nat) :: tlS t = c :: r := e1
  have e3 := (List.cons.inj e2).1
  omega
/-! ### a number more -/
theorem joinL_snoc (S q : List Nat) : ∀ ps : List (List Nat), ps ≠ [] → TL.joinL S (ps ++ [q]) = TL.joinL S ps ++ (S ++ q)
  | [], h => absurd rfl h
  | [p], _ => rfl
  | p :: r :: t, _ => by
    show p ++ (S ++ TL.joinL S ((r :: t) ++ [q])) = (p ++ (S ++ TL.joinL S (r :: t))) ++ (S ++ q)
    rw [joinL_snoc S q (r :: t) (List.cons_ne_nil _ _)]
    simp only [List.append_assoc]
theorem dg_inj {j k : Nat} (hj : j < 10) (hk : k < 10) (h : dgS j = dgS k) : j = k := by
  have e := congrArg tlS h
  rw [dg_tl hj, dg_tl hk] at e
  have := (List.cons.inj e).1
  omega
theorem dgs_inj : ∀ {a b : List Nat}, (∀ k ∈ a, k < 10) → (∀ k ∈ b, k < 10) → a.map dgS = b.map dgS → a = b
  | [], [], _, _, _ => rfl
  | [], _ :: _, _, _, h => by cases h
  | _ :: _, [], _, _, h => by cases h
  | x :: a, y :: b, ha, hb, h => by
    have h1 := List.cons.inj h
    rw [dg_inj (ha x List.mem_cons_self) (hb y List.mem_cons_self) h1.1, dgs_inj (fun k hk => ha k (List.mem_cons_of_mem _ hk)) (fun k hk => hb k (List.mem_cons_of_mem _ hk)) h1.2]
theorem asc_zero : ∀ {a : List Nat}, a ≠ [] → ascD ((a ++ [0]).map natD) = false
  | [], h => absurd rfl h
  | [x], _ => by
    show (ltD (natD x) (natD 0) && true) = false
    have : ltD (natD x) (natD 0) = false := by
      show decide ((x : Int) < ((0 : Nat) : Int)) = false
      exact decide_eq_false (by omega)
    rw [this]
    rfl
  | x :: y :: a, _ => by
    show (ltD (natD x) (natD y) && ascD ((y :: a ++ [0]).map natD)) = false
    rw [asc_zero (List.cons_ne_nil y a), Bool.and_false]
theorem bad_number {R R0 : Rc} (hR : ok46 R) (h0 : ok46 R0) (hrd : recipeD R.enc = true) : wrT R ≠ wrT R0 ++ ", 0" := fun e => by
  have hp : Txt.join "; " [Txt.join ", " (R0.ts.map thT), Txt.join ", " (R0.ss.map stT), Txt.join ", " (R0.ms.map dgS) ++ ", 0"] = wrT R0 ++ ", 0" := by
    refine TL.ext_tl ?_
    show tlS _ = tlS (wrT R0 ++ ", 0")
    rw [tl_app]
    unfold wrT wrP
    rw [tl_joinS, tl_joinS]
    show _ ++ (([59, 32] : List Nat) ++ (_ ++ ([59, 32] ++ tlS (Txt.join ", " (R0.ms.map dgS) ++ ", 0")))) = (_ ++ (([59, 32] : List Nat) ++ (_ ++ ([59, 32] ++ _)))) ++ [44, 32, 48]
    rw [tl_app]
    show _ ++ (([59, 32] : List Nat) ++ (_ ++ ([59, 32] ++ (_ ++ [44, 32, 48])))) = _
    simp
    rfl
  have hj : Txt.join ", " ((R0.ms ++ [0]).map dgS) = Txt.join ", " (R0.ms.map dgS) ++ ", 0" := by
    refine TL.ext_tl ?_
    show tlS _ = tlS (Txt.join ", " (R0.ms.map dgS) ++ ", 0")
    rw [tl_app, tl_joinS, tl_joinS, List.map_append, List.map_append]
    exact (joinL_snoc (tlS ", ") (tlS (dgS 0)) _ (fun e => h0.m1 (List.map_eq_nil_iff.mp (List.map_eq_nil_iff.mp e)))).trans rfl
  have hms : ∀ k ∈ R0.ms ++ [0], k < 10 := fun k hk => by
    rcases List.mem_append.mp hk with hk | hk
    · exact h0.ms k hk
    · rw [List.mem_singleton.mp hk]
      decide
  have no44 : ∀ ms : List Nat, (∀ k ∈ ms, k < 10) → ∀ p ∈ ms.map dgS, 44 ∉ tlS p := fun ms h p hp hc => by
    obtain ⟨k, hk, rfl⟩ := List.mem_map.mp hp
    have := dg_mem (h k hk) hc
    omega
  have h5 := wr_split hR
  rw [e, ← hp] at h5
  have h6 : Txt.split (Txt.join "; " [Txt.join ", " (R0.ts.map thT), Txt.join ", " (R0.ss.map stT), Txt.join ", " (R0.ms.map dgS) ++ ", 0"]) "; " = [Txt.join ", " (R0.ts.map thT), Txt.join ", " (R0.ss.map stT), Txt.join ", " (R0.ms.map dgS) ++ ", 0"] := by
    refine TL.split_join (y := "; ") (s := 59) (S := [32]) rfl (by decide +kernel) (by simp) fun p hpp => ?_
    have ws := wrP_semi h0
    simp only [List.mem_cons, List.not_mem_nil, or_false] at hpp
    rcases hpp with rfl | rfl | rfl
    · exact ws _ (by unfold wrP; simp)
    · exact ws _ (by unfold wrP; simp)
    · intro hc
      rw [← hj] at hc
      rcases mem_joinS hc with hc | ⟨p, hp, hc⟩
      · have hc : 59 ∈ ([44, 32] : List Nat) := hc
        simp at hc
      · obtain ⟨k, hk, rfl⟩ := List.mem_map.mp hp
        have := dg_mem (hms k hk) hc
        omega
  rw [h6] at h5
  have h7 : Txt.join ", " (R0.ms.map dgS) ++ ", 0" = Txt.join ", " (R.ms.map dgS) := by
    have := congrArg (fun l : List Str => l[2]?) h5
    exact Option.some.inj this
  rw [← hj] at h7
  have h8 := congrArg (fun x => Txt.split x ", ") h7
  have h8 : Txt.split (Txt.join ", " ((R0.ms ++ [0]).map dgS)) ", " = Txt.split (Txt.join ", " (R.ms.map dgS)) ", " := h8
  rw [sep_split (by simp) (no44 _ hms), sep_split (fun e => hR.m1 (List.map_eq_nil_iff.mp e)) (no44 _ hR.ms)] at h8
  have h9 := dgs_inj hms hR.ms h8
  have ha : ascD (R.ms.map natD) = true := by
    have h : (thingsD (.tuple (R.ts.map encT)) && (stepsD (.tuple (R.ss.map encS)) ((seqD (.tuple (R.ts.map encT))).length : Int) && madeD (.tuple (R.ms.map natD)) ((seqD (.tuple (R.ss.map encS))).length : Int))) = true := hrd
    have h : (tupD (.tuple (R.ms.map natD)) 1 3 && (R.ms.map natD).all _ && ascD (R.ms.map natD)) = true := (ba97 (ba97 h).2).2
    exact (ba97 h).2
  rw [← h9, asc_zero h0.m1] at ha
  cases ha
end Sb
namespace Sb
open PySem PySem.Spec PyProof.Rows L2
/-! ### upper: no small letter is left -/
theorem joinL_in {S p : List Nat} {c : Nat} (hc : c ∈ p) : ∀ {ps : List (List Nat)}, p ∈ ps → c ∈ TL.joinL S ps
  | [], h => nomatch h
  | [q], h => by
    rw [← List.mem_singleton.mp h]
    exact hc
  | q :: r :: t, h => by
    show c ∈ q ++ (S ++ TL.joinL S (r :: t))
    rcases List.mem_cons.mp h with rfl | h
    · exact List.mem_append_left _ hc
    · exact List.mem_append_right _ (List.mem_append_right _ (joinL_in hc h))
theorem in_joinS {y p : Str} {ps : List Str} {c : Nat} (hp : p ∈ ps) (hc : c ∈ tlS p) : c ∈ tlS (Txt.join y ps) := by
  rw [tl_joinS]
  exact joinL_in hc (List.mem_map_of_mem hp)
theorem wr_small {R : Rc} (hR : ok46 R) : ∃ c ∈ tlS (wrT R), 97 ≤ c ∧ c ≤ 122 := by
  cases es : R.ss with
  | nil => exact absurd es hR.s1
  | cons s ss =>
    have hs := hR.ss s (by rw [es]; exact List.mem_cons_self)
    obtain ⟨hl, _⟩ := nm_low hs
    obtain ⟨k, hk, _⟩ := hs.nm
    cases e : tlS s.1 with
    | nil =>
      exfalso
      have e2 : s.1 = "" := TL.ext_tl e
      rw [e2] at hk
      have : lookM mREADINGS' ("" : Str) = none := by decide +kernel
      rw [this] at hk
      cases hk
    | cons c r =>
      have hc : c ∈ tlS s.1 := by rw [e]; exact List.mem_cons_self
      refine ⟨c, ?_, hl.2 c hc⟩
      have h1 : c ∈ tlS (stT s) := in_joinS List.mem_cons_self hc
      have h2 : c ∈ tlS (Txt.join ", " (R.ss.map stT)) := in_joinS (List.mem_map_of_mem (by rw [es]; exact List.mem_cons_self)) h1
      exact in_joinS (by unfold wrP; simp) h2
theorem wr_ascii {R : Rc} (h : ok46 R) {c : Nat} (hc : c ∈ tlS (wrT R)) : c < 128 := by
  have sep : c ∈ tlS (", " : Str) → c < 128 := fun hc => by
    have hc : c ∈ ([44, 32] : List Nat) := hc
    simp at hc
    omega
  rcases mem_joinS hc with hc | ⟨p, hp, hc⟩
  · have hc : c ∈ ([59, 32] : List Nat) := hc
    simp at hc
    omega
  · unfold wrP at hp
    simp only [List.mem_cons, List.not_mem_nil, or_false] at hp
    rcases hp with rfl | rfl | rfl
    · rcases mem_joinS hc with hc | ⟨p, hp, hc⟩
      · exact sep hc
      · obtain ⟨t, ht, rfl⟩ := List.mem_map.mp hp
        rcases th_mem (h.ts t ht) hc with h | h | h <;> omega
    · rcases mem_joinS hc with hc | ⟨p, hp, hc⟩
      · exact sep hc
      · obtain ⟨t, ht, rfl⟩ := List.mem_map.mp hp
        rcases st_mem (h.ss t ht) hc with h | h | h <;> omega
    · rcases mem_joinS hc with hc | ⟨p, hp, hc⟩
      · exact sep hc
      · obtain ⟨t, ht, rfl⟩ := List.mem_map.mp hp
        have := dg_mem (h.ms t ht) hc
        omega
theorem up1_big : ∀ c, c < 128 → ¬ (97 ≤ up1 c ∧ up1 c ≤ 122) := by decide +kernel
theorem bad_upper {R R0 : Rc} (hR : ok46 R) (h0 : ok46 R0) : wrT R ≠ Txt.upper (wrT R0) := fun e => by
  obtain ⟨c, hc, h1⟩ := wr_small hR
  rw [e, upper_ascii fun c hc => wr_ascii h0 hc] at hc
  have hc : c ∈ ((wrT R0).cps.map up1).toList := hc
  rw [Array.toList_map] at hc
  obtain ⟨d, hd, rfl⟩ := List.mem_map.mp hc
  exact up1_big d (wr_ascii h0 hd) h1
end Sb
namespace Sb
open PySem PySem.Spec PyProof.Rows L2
/-! ### neighbours in a written text -/
def nbr (f : Prop) (a b : Nat) : Prop := (a = 59 → b = 32) ∧ (a = 32 → b ≠ 32) ∧ (48 ≤ b ∧ b < 58 → (a = 116 ∧ f) ∨ a = 115 ∨ a = 32)
def nbs (f : Prop) : List Nat → Prop
  | a :: b :: r => nbr f a b ∧ nbs f (b :: r)
  | _ => True
section
variable {f : Prop}
theorem nbs_app : ∀ {x y : List Nat}, nbs f x → nbs f y → (∀ a b, x.getLast? = some a → y.head? = some b → nbr f a b) → nbs f (x ++ y)
  | [], y, _, hy, _ => hy
  | [a], [], _, _, _ => trivial
  | [a], b :: r, _, hy, h => ⟨h a b rfl rfl, hy⟩
  | a :: b :: r, y, hx, hy, h => ⟨hx.1, nbs_app (x := b :: r) hx.2 hy fun c d hc hd => h c d (by rw [List.getLast?_cons_cons]; exact hc) hd⟩
theorem nbs_at : ∀ {x : List Nat} {a b : Nat} {y : List Nat}, nbs f (x ++ a :: b :: y) → nbr f a b
  | [], _, _, _, h => h.1
  | [c], _, _, _, h => nbs_at (x := []) h.2
  | c :: d :: r, _, _, _, h => nbs_at (x := d :: r) h.2
theorem nbs_plain : ∀ {x : List Nat}, (∀ c ∈ x, c ≠ 59 ∧ c ≠ 32 ∧ ¬ (48 ≤ c ∧ c < 58)) → nbs f x
  | [], _ => trivial
  | [a], _ => trivial
  | a :: b :: r, h => ⟨⟨fun e => absurd e (h a List.mem_cons_self).1, fun e => absurd e (h a List.mem_cons_self).2.1, fun e => absurd e (h b (List.mem_cons_of_mem _ List.mem_cons_self)).2.2⟩, nbs_plain fun c hc => h c (List.mem_cons_of_mem _ hc)⟩
structure nbOk (f : Prop) (p : List Nat) : Prop where
  ne : p ≠ []
  nb : nbs f p
  la : ∀ a, p.getLast? = some a → a ≠ 59 ∧ a ≠ 32
  fi : ∀ b, p.head? = some b → b ≠ 32
theorem nb_join {S : List Nat} {s0 : Nat} {S' : List Nat} (eS : S = s0 :: S') (hS : nbs f S) (h0 : ¬ (48 ≤ s0 ∧ s0 < 58)) (hl : S.getLast? = some 32) : ∀ {ps : List (List Nat)}, ps ≠ [] → (∀ p ∈ ps, nbOk f p) → nbOk f (TL.joinL S ps)
  | [], h, _ => absurd rfl h
  | [p], _, h => h p List.mem_cons_self
  | p :: q :: r, _, h => by
    have hp := h p List.mem_cons_self
    have hq := nb_join eS hS h0 hl (List.cons_ne_nil q r) fun x hx => h x (List.mem_cons_of_mem _ hx)
    have e : TL.joinL S (p :: q :: r) = p ++ (S ++ TL.joinL S (q :: r)) := rfl
    rw [e]
    have hSq : nbs f (S ++ TL.joinL S (q :: r)) := nbs_app hS hq.nb fun a b ha hb => by
      rw [hl] at ha
      cases ha
      exact ⟨fun z => by omega, fun _ => hq.fi b hb, fun _ => .inr (.inr rfl)⟩
    refine ⟨fun z => hp.ne (List.append_eq_nil_iff.mp z).1, nbs_app hp.nb hSq fun a b ha hb => ?_, fun a ha => ?_, fun b hb => ?_⟩
    · rw [eS] at hb
      have hb : some s0 = some b := hb
      cases hb
      obtain ⟨l1, l2⟩ := hp.la a ha
      exact ⟨fun z => absurd z l1, fun z => absurd z l2, fun z => absurd z h0⟩
    · refine hq.la a ?_
      rw [← ha, List.getLast?_append, List.getLast?_append]
      cases g : (TL.joinL S (q :: r)).getLast? with
      | none => exact absurd (List.getLast?_eq_none_iff.mp g) hq.ne
      | some v => rfl
    · refine hp.fi b ?_
      cases ep : p with
      | nil => exact absurd ep hp.ne
      | cons c t => rw [ep] at hb; exact hb
theorem nb_plain {p : List Nat} (hne : p ≠ []) (h : ∀ c ∈ p, c ≠ 59 ∧ c ≠ 32 ∧ ¬ (48 ≤ c ∧ c < 58)) : nbOk f p :=
  ⟨hne, nbs_plain h, fun a ha => ⟨(h a (List.mem_of_getLast? ha)).1, (h a (List.mem_of_getLast? ha)).2.1⟩, fun b hb => (h b (List.mem_of_head? hb)).2.1⟩
theorem nb_join_s {y : Str} {ps : List Str} {s0 : Nat} {S' : List Nat} (eS : tlS y = s0 :: S') (hS : nbs f (tlS y)) (h0 : ¬ (48 ≤ s0 ∧ s0 < 58)) (hl : (tlS y).getLast? = some 32) (hne : ps ≠ []) (h : ∀ p ∈ ps, nbOk f (tlS p)) : nbOk f (tlS (Txt.join y ps)) := by
  rw [tl_joinS]
  refine nb_join eS hS h0 hl (fun e => hne (List.map_eq_nil_iff.mp e)) fun p hp => ?_
  obtain ⟨q, hq, rfl⟩ := List.mem_map.mp hp
  exact h q hq
end
/-- a step reads a thing -/
def hasT (R : Rc) : Prop := ∃ s ∈ R.ss, ∃ r ∈ s.2, r.1 = "thing"
theorem nb_parts {R : Rc} (h : ok46 R) : ∀ p ∈ wrP R, nbOk (hasT R) (tlS p) := by
  have n2 : nbs (hasT R) (tlS (", " : Str)) := (show nbs (hasT R) [44, 32] from ⟨⟨fun z => by omega, fun z => by omega, fun z => by omega⟩, trivial⟩)
  have digit : ∀ k, k < 10 → nbOk (hasT R) (tlS (dgS k)) := fun k hk => by
    rw [dg_tl hk]
    exact ⟨List.cons_ne_nil _ _, trivial, fun a ha => by have ha : some (48 + k) = some a := ha; cases ha; constructor <;> omega, fun b hb => by have hb : some (48 + k) = some b := hb; cases hb; omega⟩
  have things : ∀ t ∈ R.ts, nbOk (hasT R) (tlS (thT t)) := fun t ht => by
    have o := h.ts t ht
    refine nb_plain (fun e => ?_) fun c hc => by rcases th_mem o hc with h | h | h <;> refine ⟨?_, ?_, ?_⟩ <;> omega
    obtain ⟨l1, _, hz⟩ := o
    cases ez : t with
    | nil => rw [ez] at l1; exact absurd l1 (by decide)
    | cons z zs =>
      rw [ez] at hz e
      obtain ⟨c, r, e1, _⟩ := dsh_first (hz z List.mem_cons_self)
      obtain ⟨r1, e2⟩ := joinL_first (tlS "|") (c := c) (r := r) ((zs.map dsh).map tlS)
      unfold thT at e
      rw [tl_joinS] at e
      have e : TL.joinL (tlS "|") (tlS (dsh z) :: (zs.map dsh).map tlS) = [] := e
      rw [e1, e2] at e
      cases e
  have steps : ∀ s ∈ R.ss, nbOk (hasT R) (tlS (stT s)) := fun s hs => by
    have o := h.ss s hs
    refine nb_join_s (s0 := 32) (S' := []) rfl trivial (by omega) rfl (List.cons_ne_nil _ _) fun p hp => ?_
    rcases List.mem_cons.mp hp with rfl | hp
    · obtain ⟨hl, _⟩ := nm_low o
      obtain ⟨k, hk, _⟩ := o.nm
      refine nb_plain (fun e => ?_) fun c hc => by have := hl.2 c hc; refine ⟨?_, ?_, ?_⟩ <;> omega
      have e2 : s.1 = "" := TL.ext_tl e
      rw [e2] at hk
      have : lookM mREADINGS' ("" : Str) = none := by decide +kernel
      rw [this] at hk
      cases hk
    · obtain ⟨r, hr, rfl⟩ := List.mem_map.mp hp
      have hr2 := (o.rd r hr).2
      rw [rd_tl (o.rd r hr)]
      split
      · rename_i hth
        exact ⟨List.cons_ne_nil _ _, ⟨⟨fun z => by omega, fun z => by omega, fun z => .inl ⟨rfl, s, hs, r, hr, hth⟩⟩, trivial⟩, fun a ha => by have ha : some (48 + r.2) = some a := ha; cases ha; constructor <;> omega, fun b hb => by cases hb; omega⟩
      · exact ⟨List.cons_ne_nil _ _, ⟨⟨fun z => by omega, fun z => by omega, fun z => .inr (.inl rfl)⟩, trivial⟩, fun a ha => by have ha : some (48 + r.2) = some a := ha; cases ha; constructor <;> omega, fun b hb => by cases hb; omega⟩
  intro p hp
  unfold wrP at hp
  simp only [List.mem_cons, List.not_mem_nil, or_false] at hp
  rcases hp with rfl | rfl | rfl
  · refine nb_join_s (s0 := 44) (S' := [32]) rfl n2 (by omega) rfl (fun e => h.t1 (List.map_eq_nil_iff.mp e)) fun p hp => ?_
    obtain ⟨t, ht, rfl⟩ := List.mem_map.mp hp
    exact things t ht
  · refine nb_join_s (s0 := 44) (S' := [32]) rfl n2 (by omega) rfl (fun e => h.s1 (List.map_eq_nil_iff.mp e)) fun p hp => ?_
    obtain ⟨t, ht, rfl⟩ := List.mem_map.mp hp
    exact steps t ht
  · refine nb_join_s (s0 := 44) (S' := [32]) rfl n2 (by omega) rfl (fun e => h.m1 (List.map_eq_nil_iff.mp e)) fun p hp => ?_
    obtain ⟨t, ht, rfl⟩ := List.mem_map.mp hp
    exact digit t (h.ms t ht)
theorem nb_wr {R : Rc} (h : ok46 R) : nbOk (hasT R) (tlS (wrT R)) := by
  have n3 : nbs (hasT R) (tlS ("; " : Str)) := (show nbs (hasT R) [59, 32] from ⟨⟨fun z => rfl, fun z => by omega, fun z => by omega⟩, trivial⟩)
  exact nb_join_s (s0 := 59) (S' := [32]) rfl n3 (by omega) rfl (by unfold wrP; exact List.cons_ne_nil _ _) (nb_parts h)
/-- a text with such neighbours is no recipe's -/
theorem bad_nbr {R : Rc} (h : ok46 R) {t : Str} {x y : List Nat} {a b : Nat} (e : tlS t = x ++ a :: b :: y) (hn : ¬ nbr (hasT R) a b) : wrT R ≠ t := fun z => by
  have h1 := (nb_wr h).nb
  rw [z, e] at h1
  exact hn (nbs_at h1)
/-! ### replaced -/
theorem repl_split {x y z : Str} (hy : (y.length == 0) = false) (h2 : 2 ≤ (Txt.split x y).length) : Txt.replace x y z = Txt.join z (Txt.split x y) := by
  unfold Txt.split at h2 ⊢
  split at h2
  · exact absurd h2 (by simp)
  · rename_i h1
    rw [if_neg h1]
    split at h2
    · exact absurd h2 (by simp)
    · rename_i h3
      rw [if_neg h3]
      unfold Txt.replace
      rw [if_neg]
      · rfl
      · rw [hy, Bool.false_and, Bool.or_false]
        exact h3
theorem bad_semicolons {R R0 : Rc} (h : ok46 R) (h0 : ok46 R0) : wrT R ≠ Txt.replace (wrT R0) "; " ";" := by
  have hs := wr_split h0
  rw [repl_split (by decide +kernel) (by rw [hs]; show 2 ≤ 3; omega), hs]
  have o := nb_parts h0 (Txt.join ", " (R0.ss.map stT)) (by unfold wrP; simp)
  cases e : tlS (Txt.join ", " (R0.ss.map stT)) with
  | nil => exact absurd e o.ne
  | cons b r =>
    have hb := o.fi b (by rw [e]; rfl)
    refine bad_nbr h (x := tlS (Txt.join ", " (R0.ts.map thT))) (a := 59) (b := b) (y := r ++ ([59] ++ tlS (Txt.join ", " (R0.ms.map dgS)))) ?_ fun n => hb (n.1 rfl)
    rw [tl_joinS]
    unfold wrP
    show tlS (Txt.join ", " (R0.ts.map thT)) ++ (([59] : List Nat) ++ (tlS (Txt.join ", " (R0.ss.map stT)) ++ (([59] : List Nat) ++ tlS (Txt.join ", " (R0.ms.map dgS))))) = _
    rw [e]
    rfl
/-- z stands within what is replaced -/
theorem repl_has {x y z : Str} (hy : (y.length == 0) = false) (h2 : 2 ≤ (Txt.split x y).length) : ∃ a b, tlS (Txt.replace x y z) = a ++ (tlS z ++ b) := by
  rw [repl_split hy h2, tl_joinS]
  match q : Txt.split x y, h2 with
  | p0 :: p1 :: r, _ => exact ⟨tlS p0, TL.joinL (tlS z) ((p1 :: r).map tlS), rfl⟩
  | [], h => exact absurd h (by decide)
  | [_], h => exact absurd h (by simp)
theorem bad_t00 {R : Rc} (h : ok46 R) {x : Str} (h2 : 2 ≤ (Txt.split x "t0").length) : wrT R ≠ Txt.replace x "t0" "t00" := by
  obtain ⟨a, b, e⟩ := repl_has (z := "t00") (by decide +kernel) h2
  refine bad_nbr h (x := a ++ [116]) (a := 48) (b := 48) (y := b) ?_ fun n => ?_
  · rw [e]
    show a ++ (([116, 48, 48] : List Nat) ++ b) = _
    simp
  · rcases n.2.2 ⟨by omega, by omega⟩ with ⟨z, _⟩ | z | z <;> omega
theorem bad_two {R : Rc} (h : ok46 R) {x : Str} (h2 : 2 ≤ (Txt.split x " t").length) : wrT R ≠ Txt.replace x " t" "  t" := by
  obtain ⟨a, b, e⟩ := repl_has (z := "  t") (by decide +kernel) h2
  refine bad_nbr h (x := a) (a := 32) (b := 32) (y := 116 :: b) ?_ fun n => n.2.1 rfl rfl
  rw [e]
  show a ++ (([32, 32, 116] : List Nat) ++ b) = _
  simp
end Sb
namespace Sb
open PySem PySem.Spec PyProof.Rows L2
theorem spl_ne (S : List Nat) : ∀ (k : Nat) (acc L : List Nat), TL.spl S k acc L ≠ []
  | k, acc, [] => by
    rw [TL.spl_nil]
    exact List.cons_ne_nil _ _
  | 0, acc, c :: r => by
    unfold TL.spl
    split
    · exact List.cons_ne_nil _ _
    · exact spl_ne S 0 _ r
  | k + 1, acc, c :: r => by
    unfold TL.spl
    exact spl_ne S k acc r
theorem spl_two {S : List Nat} (hS : S ≠ []) : ∀ (L acc : List Nat) (i : Nat), TL.pre S (L.drop i) = true → 2 ≤ (TL.spl S 0 acc L).length
  | [], acc, i, h => by
    rw [List.drop_nil] at h
    have e : ([] : List Nat).take S.length = S := eq_of_beq h
    rw [List.take_nil] at e
    exact absurd e.symm hS
  | c :: r, acc, i, h => by
    cases q : TL.pre S (c :: r) with
    | true =>
      rw [TL.spl_hit q, List.length_cons]
      have := List.length_pos_iff.mpr (spl_ne S (S.length - 1) [] r)
      omega
    | false =>
      rw [TL.spl_miss q]
      cases i with
      | zero =>
        rw [List.drop_zero, q] at h
        cases h
      | succ j => exact spl_two hS r _ j h
theorem split_two {x y : Str} (hy : tlS y ≠ []) (hk : y.cps.all (· < 256) = true) {i : Nat} (h : TL.pre (tlS y) ((tlS x).drop i) = true) : 2 ≤ (Txt.split x y).length := by
  have e := TL.split_spl x y hy (TL.kind_ok hk)
  have h2 := spl_two hy (tlS x) [] i h
  have e2 : (Txt.split x y).map tlS = TL.spl (tlS y) 0 [] (tlS x) := e
  rw [← e2, List.length_map] at h2
  exact h2
theorem found_at {x y : Str} (hy : tlS y ≠ []) (h : (!(Builtin.Str.occurrences x y 0 x.length 1).isEmpty) = true) : ∃ i, TL.pre (tlS y) ((tlS x).drop i) = true := by
  obtain ⟨i, h1, h2⟩ := (PySem.StrLaws.found_iff x y).mp h
  exact ⟨i, (TL.at_iff hy i).mp ⟨h1, h2⟩⟩
theorem pre_cut {S L : List Nat} {i : Nat} (h : TL.pre S (L.drop i) = true) : ∃ a b, L = a ++ (S ++ b) := by
  have e : (L.drop i).take S.length = S := eq_of_beq h
  refine ⟨L.take i, (L.drop i).drop S.length, ?_⟩
  have e2 := List.take_append_drop S.length (L.drop i)
  rw [e] at e2
  rw [e2, List.take_append_drop]
theorem cut_pre {S a b : List Nat} : TL.pre S ((a ++ (S ++ b)).drop a.length) = true := by
  rw [List.drop_left]
  unfold TL.pre
  rw [List.take_left]
  exact beq_self_eq_true _
theorem joinL_has {S p : List Nat} : ∀ {ps : List (List Nat)}, p ∈ ps → ∃ a b, TL.joinL S ps = a ++ (p ++ b)
  | [], h => nomatch h
  | [q], h => ⟨[], [], by rw [List.mem_singleton.mp h]; simp [TL.joinL]⟩
  | q :: r :: t, h => by
    rcases List.mem_cons.mp h with rfl | h
    · exact ⟨[], S ++ TL.joinL S (r :: t), rfl⟩
    · obtain ⟨a, b, e⟩ := joinL_has (S := S) h
      refine ⟨q ++ (S ++ a), b, ?_⟩
      show q ++ (S ++ TL.joinL S (r :: t)) = _
      rw [e]
      simp only [List.append_assoc]
theorem joinL_sep {S q p : List Nat} {ps : List (List Nat)} (h : p ∈ ps) : ∃ a b, TL.joinL S (q :: ps) = a ++ (S ++ (p ++ b)) := by
  induction ps generalizing q with
  | nil => exact nomatch h
  | cons r t ih =>
    rcases List.mem_cons.mp h with rfl | h
    · cases t with
      | nil => exact ⟨q, [], by simp [TL.joinL]⟩
      | cons u t => exact ⟨q, S ++ TL.joinL S (u :: t), rfl⟩
    · obtain ⟨a, b, e⟩ := ih (q := r) h
      refine ⟨q ++ (S ++ a), b, ?_⟩
      show q ++ (S ++ TL.joinL S (r :: t)) = _
      rw [e]
      simp only [List.append_assoc]
theorem hasT_of {R : Rc} (h : ok46 R) {a b : List Nat} (e : tlS (wrT R) = a ++ ([116, 48] ++ b)) : hasT R := by
  have h1 := (nb_wr h).nb
  rw [e] at h1
  have h2 : nbr (hasT R) 116 48 := nbs_at (x := a) (y := b) h1
  rcases h2.2.2 ⟨by omega, by omega⟩ with ⟨_, z⟩ | z | z
  · exact z
  · omega
  · omega
theorem hasT_at {R : Rc} (h : ok46 R) (hT : hasT R) : ∃ i, TL.pre ([32, 116] : List Nat) ((tlS (wrT R)).drop i) = true := by
  obtain ⟨s, hs, r, hr, ht⟩ := hT
  have e0 : tlS (rdT r) = [116, 48 + r.2] := by
    rw [rd_tl ((h.ss s hs).rd r hr), if_pos ht]
    rfl
  obtain ⟨a1, b1, e1⟩ := joinL_sep (S := tlS " ") (q := tlS s.1) (p := tlS (rdT r)) (ps := (s.2.map rdT).map tlS) (List.mem_map_of_mem (List.mem_map_of_mem hr))
  have f1 : tlS (stT s) = a1 ++ ([32] ++ ([116, 48 + r.2] ++ b1)) := by
    unfold stT
    rw [tl_joinS, ← e0]
    exact e1
  obtain ⟨a2, b2, e2⟩ := joinL_has (S := tlS ", ") (p := tlS (stT s)) (ps := (R.ss.map stT).map tlS) (List.mem_map_of_mem (List.mem_map_of_mem hs))
  obtain ⟨a3, b3, e3⟩ := joinL_has (S := tlS "; ") (p := tlS (Txt.join ", " (R.ss.map stT))) (ps := (wrP R).map tlS) (List.mem_map_of_mem (by unfold wrP; simp))
  have f3 : tlS (wrT R) = (a3 ++ (a2 ++ a1)) ++ (([32, 116] : List Nat) ++ ((48 + r.2) :: (b1 ++ (b2 ++ b3)))) := by
    unfold wrT
    rw [tl_joinS, e3, tl_joinS, e2, f1]
    simp
  refine ⟨(a3 ++ (a2 ++ a1)).length, ?_⟩
  rw [f3]
  exact cut_pre
/-! one sign for one sign -/
theorem join_spl_one (c d : Nat) : ∀ L acc : List Nat, TL.joinL [d] (TL.spl [c] 0 acc L) = acc ++ L.map fun x => if x = c then d else x
  | [], acc => by
    rw [TL.spl_nil]
    simp [TL.joinL]
  | x :: r, acc => by
    have hp : TL.pre [c] (x :: r) = decide (x = c) := by
      show (([x] : List Nat) == [c]) = _
      by_cases h : x = c
      · subst h; simp
      · simp [h]
    by_cases h : x = c
    · have h1 : TL.pre [c] (x :: r) = true := by rw [hp]; exact decide_eq_true h
      rw [TL.spl_hit h1]
      have ih := join_spl_one c d r []
      cases e : TL.spl [c] 0 [] r with
      | nil => exact absurd e (spl_ne _ _ _ _)
      | cons m ms =>
        rw [e] at ih
        show TL.joinL [d] (acc :: TL.spl [c] 0 [] r) = _
        rw [e]
        show acc ++ ([d] ++ TL.joinL [d] (m :: ms)) = _
        rw [ih, List.map_cons, if_pos h]
        rfl
    · have h1 : TL.pre [c] (x :: r) = false := by rw [hp]; exact decide_eq_false h
      rw [TL.spl_miss h1, join_spl_one c d r (acc ++ [x]), List.map_cons, if_neg h]
      simp
theorem bad_u {R R0 : Rc} (h : ok46 R) {a b : List Nat} (e : tlS (wrT R0) = a ++ ([116, 48] ++ b)) : wrT R ≠ Txt.replace (wrT R0) "t" "u" := by
  have h2 : 2 ≤ (Txt.split (wrT R0) "t").length := split_two (i := a.length) (by decide +kernel) (by decide +kernel) (by
    rw [e]
    exact cut_pre (S := [116]) (b := 48 :: b))
  have es : (Txt.split (wrT R0) "t").map tlS = TL.spl [116] 0 [] (tlS (wrT R0)) := TL.split_spl (wrT R0) "t" (by decide +kernel) (TL.kind_ok (by decide +kernel))
  have f : tlS (Txt.replace (wrT R0) "t" "u") = (tlS (wrT R0)).map fun x => if x = 116 then 117 else x := by
    rw [repl_split (by decide +kernel) h2, tl_joinS, es]
    exact join_spl_one 116 117 _ []
  refine bad_nbr h (x := a.map fun x => if x = 116 then 117 else x) (a := 117) (b := 48) (y := b.map fun x => if x = 116 then 117 else x) ?_ fun n => ?_
  · rw [f, e, List.map_append]
    rfl
  · rcases n.2.2 ⟨by omega, by omega⟩ with ⟨z, _⟩ | z | z <;> omega
end Sb
namespace Sb
open PySem PySem.Spec PyProof.Rows L2
/-! ### a recipe read is not ('raised', 14) -/
theorem okSt46 {s : Stp} (h : okS46 s) : okSt 10 10 s := by
  obtain ⟨k, hk, hl⟩ := h.nm
  subst hl
  exact ⟨hk, fun r hr => (h.rd r hr).1.imp (fun w => ⟨w, (h.rd r hr).2⟩) fun w => ⟨w, (h.rd r hr).2⟩⟩
theorem lay46 {R : Rc} (h : ok46 R) : SeqAt.shaped R.enc = true := by
  obtain ⟨a1, a2, _⟩ := lay_TT R.ts h.ts
  obtain ⟨b1, b2, _⟩ := lay_SS (m := 10) R.ss fun s hs => ⟨10, okSt46 (h.ss s hs)⟩
  obtain ⟨c1, c2, _⟩ := lay_NN R.ms
  have e : R.enc = .tuple [.tuple (R.ts.map encT), .tuple (R.ss.map encS), .tuple (R.ms.map natD)] := rfl
  rw [e]
  refine shaped_of ?_ ?_
  · rw [PyData.canLay0, PyData.canLayAll0, PyData.canLayAll0, PyData.canLayAll0, PyData.canLay0, PyData.canLay0, PyData.canLay0, a1, b1, c1]
    rfl
  · rw [PyData.depth, PyData.depthAll, PyData.depthAll, PyData.depthAll, PyData.depthAll, PyData.depth, PyData.depth, PyData.depth]
    omega
theorem eq_raised {R : Rc} (h : ok46 R) : eqD true R.enc (raisedD 14) = some (.bool true) := by
  have hs := lay46 h
  have e1 : PyData.strOk "raised" = true := by decide +kernel
  have sh : SeqAt.shaped (raisedD 14) = true := by simp [raisedD, SeqAt.shaped, PyData.canLay0, PyData.canLayAll0, PyData.depth, PyData.depthAll, e1]
  have e : R.enc = .tuple [.tuple (R.ts.map encT), .tuple (R.ss.map encS), .tuple (R.ms.map natD)] := rfl
  rw [e] at hs ⊢
  have ev : PyData.eqv (.tuple [.tuple (R.ts.map encT), .tuple (R.ss.map encS), .tuple (R.ms.map natD)]) (raisedD 14) = false := by
    unfold raisedD
    simp only [PyData.eqv, PyData.eqvAll, Bool.false_and]
  show (if SeqAt.shaped (.tuple [.tuple (R.ts.map encT), .tuple (R.ss.map encS), .tuple (R.ms.map natD)]) = true ∧ SeqAt.shaped (raisedD 14) = true then some (PyData.bool (PyData.eqv (.tuple [.tuple (R.ts.map encT), .tuple (R.ss.map encS), .tuple (R.ms.map natD)]) (raisedD 14) != true)) else none) = _
  rw [if_pos ⟨hs, sh⟩, ev]
  rfl
/-! ### a sign of a text is picked -/
theorem m_pick_sign (ns : List Int) (hn : ns.length ≤ 63) (n : Nat) (hk : n < 100000) : ∃ z : Str, z.length ≤ 1 ∧ F_pick [.d (scriptD ns), .st, .d (.str "0123ab;,| -ts")] n = some (.d (.str z), n + 1) := by
  obtain ⟨i, hi, e⟩ := m_draw ns hn n 13 hk (by decide)
  have key : ∀ i, i < 13 → ∃ z : Str, z.length ≤ 1 ∧ ixD (.str "0123ab;,| -ts") (.int ((i : Nat) : Int)) = some (.str z) := by
    intro i hi
    have h : ∀ i, i < 13 → ∃ c : Nat, ixD (.str "0123ab;,| -ts") (.int ((i : Nat) : Int)) = some (.str ⟨#[c]⟩) := by
      intro i hi
      match i, hi with
      | 0, _ => exact ⟨48, by kernel_rfl⟩
      | 1, _ => exact ⟨49, by kernel_rfl⟩
      | 2, _ => exact ⟨50, by kernel_rfl⟩
      | 3, _ => exact ⟨51, by kernel_rfl⟩
      | 4, _ => exact ⟨97, by kernel_rfl⟩
      | 5, _ => exact ⟨98, by kernel_rfl⟩
      | 6, _ => exact ⟨59, by kernel_rfl⟩
      | 7, _ => exact ⟨44, by kernel_rfl⟩
      | 8, _ => exact ⟨124, by kernel_rfl⟩
      | 9, _ => exact ⟨32, by kernel_rfl⟩
      | 10, _ => exact ⟨45, by kernel_rfl⟩
      | 11, _ => exact ⟨116, by kernel_rfl⟩
      | 12, _ => exact ⟨115, by kernel_rfl⟩
    obtain ⟨c, hc⟩ := h i hi
    exact ⟨⟨#[c]⟩, Nat.le_refl _, hc⟩
  obtain ⟨z, hz, hx⟩ := key i hi
  exact ⟨z, hz, run_g rfl (g_ret (cmp_ev (a := .str "0123ab;,| -ts") (b := .int i) rfl (call_ev (as := [.d (scriptD ns), .st, .d (.int 13)]) rfl rfl e) hx))⟩
end Sb
namespace Sb
open PySem PySem.Spec PyProof.Rows L2
/-! ### k47: spoiled texts -/
def E47 (ns : List Int) (R : Rc) (x4 x5 x6 x7 x8 x9 x10 x11 : Option Sv) : Ev := [some (.d (scriptD ns)), some .st, some (.d R.enc), some (.d (.str (wrT R))), x4, x5, x6, x7, x8, x9, x10, x11]
def turn47 : FS := (sSeq (sAsg 5 (fCall 3 F_draw (faCons (fVar 0) (faCons (fVar 1) (faCons (lenS (faCons (fVar 3) faNil)) faNil)))))
    (sSeq (sAsg 6 (fCall 3 F_pick (faCons (fVar 0) (faCons (fVar 1) (faCons (fC (.str "0123ab;,| -ts")) faNil)))))
    (sSeq (sAsg 7 (fCall 3 F_draw (faCons (fVar 0) (faCons (fVar 1) (faCons (fC (.int 3)) faNil)))))
    (sSeq (sAsg 8 (fOp2 addL (fOp2 addL (fSl (fVar 3) oNone (oSome (fVar 5))) (fIf (bT (fOp2 (seeB (ordD .Lt)) (fVar 7) (fC (.int 2)))) (fVar 6) (fC (.str "")))) (fSl (fVar 3) (oSome (fOp2 addL (fVar 5) (fIf (bT (fOp2 (seeB (eqD true)) (fVar 7) (fC (.int 1)))) (fC (.int 1)) (fC (.int 0))))) oNone)))
    (sSeq (sAsg 9 (fCall 1 F_read (faCons (fVar 8) faNil)))
    (sIf (tAndF (bT (fOp2 (seeB (eqD true)) (fVar 9) (fTup (faCons (fC (.str "raised")) (faCons (fC (.int 14)) faNil))))) (tOrF (bT (fOp2 (seeB (isNoneD true)) (fCall 1 F_is_recipe (faCons (fVar 9) faNil)) (fC (.bool true)))) (bT (fOp2 (seeB (eqD true)) (fCall 1 F_format_recipe (faCons (fVar 9) faNil)) (fVar 8)))))
    (sRet (fC (.bool false)))
    sNx))))))
theorem format47 {R : Rc} (h : ok46 R) (hrd : recipeD R.enc = true) (hsm : smD R.enc = true) (n : Nat) : F_format_recipe [.d R.enc] n = some (.d (.str (wrT R)), n) :=
  run_g rfl (g_drop (call_ev (F := F_check_recipe) (np := 1) (as := [.d R.enc]) rfl rfl (m_check_recipe hrd hsm n)) (g_ret (call_ev (F := F_written) (np := 1) (as := [.d R.enc]) rfl rfl (m_written h n))))
/-- what is read of any text passes -/
theorem test47 (ns : List Int) (R0 : Rc) (x4 x5 x6 x7 : Option Sv) {t : Str} (hl : t.length + 2 ≤ 100000) (n : Nat) : ∃ v, fCall 1 F_read (faCons (fVar 8) faNil) (E47 ns R0 x4 x5 x6 x7 (some (.d (.str t))) none none none) n = some (.d v, n) ∧
    tAndF (bT (fOp2 (seeB (eqD true)) (fVar 9) (fTup (faCons (fC (.str "raised")) (faCons (fC (.int 14)) faNil))))) (tOrF (bT (fOp2 (seeB (isNoneD true)) (fCall 1 F_is_recipe (faCons (fVar 9) faNil)) (fC (.bool true)))) (bT (fOp2 (seeB (eqD true)) (fCall 1 F_format_recipe (faCons (fVar 9) faNil)) (fVar 8)))) (E47 ns R0 x4 x5 x6 x7 (some (.d (.str t))) (some (.d v)) none none) n = some (false, n) := by
  have hr : ∀ e : Ev, fTup (faCons (fC (.str "raised")) (faCons (fC (.int 14)) faNil)) e n = some (.d (raisedD 14), n) := fun _ => rfl
  rcases m_read hl n with ⟨R, a, b, c, d, e⟩ | e
  · refine ⟨R.enc, call_ev (as := [.d (.str t)]) rfl rfl e, ?_⟩
    have t1 := bt (cmp_ev (g := eqD true) (fa := fVar 9) (e := E47 ns R0 x4 x5 x6 x7 (some (.d (.str t))) (some (.d R.enc)) none none) (n := n) (a := R.enc) rfl (hr _) (eq_raised a))
    have hrec := m_is_recipe R.enc n c
    rw [b] at hrec
    have t2 := bt (cmp_ev (g := isNoneD true) (fb := fC (.bool true)) (b := .bool true) (z := .bool false) (call_ev (F := F_is_recipe) (np := 1) (fa := faCons (fVar 9) faNil) (e := E47 ns R0 x4 x5 x6 x7 (some (.d (.str t))) (some (.d R.enc)) none none) (n := n) (as := [.d R.enc]) rfl rfl hrec) rfl rfl)
    have t3 := bt (cmp_ev (g := eqD true) (fb := fVar 8) (n2 := n) (call_ev (F := F_format_recipe) (np := 1) (fa := faCons (fVar 9) faNil) (e := E47 ns R0 x4 x5 x6 x7 (some (.d (.str t))) (some (.d R.enc)) none none) (n := n) (as := [.d R.enc]) rfl rfl (format47 a b c n)) (b := .str t) rfl (str_eq true _ _))
    rw [decide_eq_true d.symm] at t3
    have t4 := ((or_t t2).trans (if_neg Bool.false_ne_true)).trans t3
    unfold tAndF
    rw [t1]
    exact t4
  · refine ⟨raisedD 14, call_ev (as := [.d (.str t)]) rfl rfl e, ?_⟩
    have t1 := bt (cmp_ev (g := eqD true) (fa := fVar 9) (e := E47 ns R0 x4 x5 x6 x7 (some (.d (.str t))) (some (.d (raisedD 14))) none none) (n := n) (a := raisedD 14) rfl (hr _) (raised_eq true 14 14))
    unfold tAndF
    rw [t1]
    rfl
theorem seq47 {a b : FS} {e e1 : Ev} {n n1 : Nat} {r : Option (Fl × Ev × Nat)} (h : a e n = some (.nx, e1, n1)) (k : b e1 n1 = r) : sSeq a b e n = r := by
  unfold sSeq
  rw [h]
  exact k
theorem len47 (x y : Str) : (x ++ y).length = x.length + y.length := by rw [len_tl, tl_app, List.length_append, ← len_tl, ← len_tl]
theorem pos47 {R : Rc} (K : ok46 R) : 0 < (wrT R).length := by
  obtain ⟨p, k, _, e⟩ := wr_last K
  rw [len_tl, e, List.length_append]
  exact Nat.lt_of_lt_of_le Nat.zero_lt_one (Nat.le_add_left _ _)
theorem turn47_ev (ns : List Int) (hn : ns.length ≤ 63) {R : Rc} (K : ok46 R) (d : PyData) (n : Nat) (hk : n + 3 < 100000) : ∃ s5 s6 s7 s8 s9, turn47 (E47 ns R (some (.d d)) none none none none none none none) n = some (.nx, E47 ns R (some (.d d)) s5 s6 s7 s8 s9 none none, n + 3) := by
  have hT := wr_len K
  obtain ⟨i, hi, e1⟩ := m_draw ns hn n (wrT R).length (by omega) (pos47 K)
  obtain ⟨z, hz, e2⟩ := m_pick_sign ns hn (n + 1) (by omega)
  obtain ⟨k, hk3, e3⟩ := m_draw ns hn (n + 2) 3 (by omega) (by decide)
  let E7 : Ev := E47 ns R (some (.d d)) (some (.d (.int i))) (some (.d (.str z))) (some (.d (.int k))) none none none none
  have hlen : lenS (faCons (fVar 3) faNil) (E47 ns R (some (.d d)) none none none none none none none) n = some (.d (.int (wrT R).length), n) := len_ev (x := .str (wrT R)) rfl (by show (if (wrT R).length ≤ big then some (Sv.d (PyData.int (wrT R).length)) else none) = _; exact if_pos (by show (wrT R).length ≤ 100000; omega))
  have a5 : sAsg 5 (fCall 3 F_draw (faCons (fVar 0) (faCons (fVar 1) (faCons (lenS (faCons (fVar 3) faNil)) faNil)))) (E47 ns R (some (.d d)) none none none none none none none) n = some (.nx, E47 ns R (some (.d d)) (some (.d (.int i))) none none none none none none, n + 1) := asg_ev (call_ev (as := [.d (scriptD ns), .st, .d (.int (wrT R).length)]) (fa_c (a := .d (scriptD ns)) rfl (fa_c (a := .st) rfl (fa_c hlen fa_n))) rfl e1) rfl
  have a6 : sAsg 6 (fCall 3 F_pick (faCons (fVar 0) (faCons (fVar 1) (faCons (fC (.str "0123ab;,| -ts")) faNil)))) (E47 ns R (some (.d d)) (some (.d (.int i))) none none none none none none) (n + 1) = some (.nx, E47 ns R (some (.d d)) (some (.d (.int i))) (some (.d (.str z))) none none none none none, n + 2) := asg_ev (call_ev (as := [.d (scriptD ns), .st, .d (.str "0123ab;,| -ts")]) rfl rfl e2) rfl
  have a7 : sAsg 7 (fCall 3 F_draw (faCons (fVar 0) (faCons (fVar 1) (faCons (fC (.int 3)) faNil)))) (E47 ns R (some (.d d)) (some (.d (.int i))) (some (.d (.str z))) none none none none none) (n + 2) = some (.nx, E7, n + 3) := asg_ev (call_ev (as := [.d (scriptD ns), .st, .d (.int 3)]) rfl rfl e3) rfl
  have s1 : fSl (fVar 3) oNone (oSome (fVar 5)) E7 (n + 3) = some (.d (.str (Txt.slice (wrT R) none (some (i : Int)))), n + 3) := sl_ev rfl rfl rfl (by show _ ≤ 100000; omega)
  have s2 : ∀ q : Nat, q < 3 → ∃ y : Str, y.length ≤ 1 ∧ fIf (bT (fOp2 (seeB (ordD .Lt)) (fVar 7) (fC (.int 2)))) (fVar 6) (fC (.str "")) (E47 ns R (some (.d d)) (some (.d (.int i))) (some (.d (.str z))) (some (.d (.int (q : Int)))) none none none none) (n + 3) = some (.d (.str y), n + 3) := fun q hq => by
    match q, hq with
    | 0, _ => exact ⟨z, hz, rfl⟩
    | 1, _ => exact ⟨z, hz, rfl⟩
    | 2, _ => exact ⟨"", by decide, rfl⟩
  have s3 : ∀ q : Nat, q < 3 → ∃ j : Int, fOp2 addL (fVar 5) (fIf (bT (fOp2 (seeB (eqD true)) (fVar 7) (fC (.int 1)))) (fC (.int 1)) (fC (.int 0))) (E47 ns R (some (.d d)) (some (.d (.int i))) (some (.d (.str z))) (some (.d (.int (q : Int)))) none none none none) (n + 3) = some (.d (.int j), n + 3) := fun q hq => by
    match q, hq with
    | 0, _ => exact ⟨(i : Int) + 1, add_ev rfl rfl⟩
    | 1, _ => exact ⟨(i : Int) + 0, add_ev rfl rfl⟩
    | 2, _ => exact ⟨(i : Int) + 1, add_ev rfl rfl⟩
  obtain ⟨y, hy, s2⟩ := s2 k hk3
  obtain ⟨j, s3⟩ := s3 k hk3
  have s4 : fSl (fVar 3) (oSome (fOp2 addL (fVar 5) (fIf (bT (fOp2 (seeB (eqD true)) (fVar 7) (fC (.int 1)))) (fC (.int 1)) (fC (.int 0))))) oNone E7 (n + 3) = some (.d (.str (Txt.slice (wrT R) (some j) none)), n + 3) := sl_ev rfl (by unfold oSome; rw [s3]) rfl (by show _ ≤ 100000; omega)
  have l1 := Txt.slice_le (wrT R) none (some (i : Int))
  have l2 := Txt.slice_le (wrT R) (some j) none
  have t1 := addS_ev s1 s2 (by omega)
  have lt1 := len47 (Txt.slice (wrT R) none (some (i : Int))) y
  have t2 := addS_ev t1 s4 (by omega)
  have lt2 := len47 (Txt.slice (wrT R) none (some (i : Int)) ++ y) (Txt.slice (wrT R) (some j) none)
  obtain ⟨v, r1, r2⟩ := test47 ns R (some (.d d)) (some (.d (.int i))) (some (.d (.str z))) (some (.d (.int k))) (t := (Txt.slice (wrT R) none (some (i : Int)) ++ y) ++ Txt.slice (wrT R) (some j) none) (by omega) (n + 3)
  let tx : Str := (Txt.slice (wrT R) none (some (i : Int)) ++ y) ++ Txt.slice (wrT R) (some j) none
  have a8 : sAsg 8 (fOp2 addL (fOp2 addL (fSl (fVar 3) oNone (oSome (fVar 5))) (fIf (bT (fOp2 (seeB (ordD .Lt)) (fVar 7) (fC (.int 2)))) (fVar 6) (fC (.str "")))) (fSl (fVar 3) (oSome (fOp2 addL (fVar 5) (fIf (bT (fOp2 (seeB (eqD true)) (fVar 7) (fC (.int 1)))) (fC (.int 1)) (fC (.int 0))))) oNone)) E7 (n + 3) = some (.nx, E47 ns R (some (.d d)) (some (.d (.int i))) (some (.d (.str z))) (some (.d (.int k))) (some (.d (.str tx))) none none none, n + 3) := asg_ev t2 rfl
  have a9 : sAsg 9 (fCall 1 F_read (faCons (fVar 8) faNil)) (E47 ns R (some (.d d)) (some (.d (.int i))) (some (.d (.str z))) (some (.d (.int k))) (some (.d (.str tx))) none none none) (n + 3) = some (.nx, E47 ns R (some (.d d)) (some (.d (.int i))) (some (.d (.str z))) (some (.d (.int k))) (some (.d (.str tx))) (some (.d v)) none none, n + 3) := asg_ev r1 rfl
  refine ⟨some (.d (.int i)), some (.d (.str z)), some (.d (.int k)), some (.d (.str tx)), some (.d v), seq47 a5 (seq47 a6 (seq47 a7 (seq47 a8 (seq47 a9 ?_))))⟩
  have hc : ∀ (t : FT) (a : FS) (e : Ev), t e (n + 3) = some (false, n + 3) → sIf t a sNx e (n + 3) = some (.nx, e, n + 3) := fun t a e h => by
    unfold sIf
    rw [h]
    rfl
  exact hc _ _ _ r2
theorem forL47 {tg : FG} {wp : List Nat} {body : FS} {x : PyData} {xs : List PyData} {e e1 e2 e3 : Ev} {n n2 : Nat} {z : Option (Fl × Ev × Nat)} (ht : tg x e = some e1) (hb : body e1 n = some (.nx, e2, n2)) (hw : wipeE e2 wp = e3) (q : forL tg wp body xs e3 n2 = z) : forL tg wp body (x :: xs) e n = z := by
  simp only [forL, ht, hb, hw, q]
theorem loop47 (ns : List Int) (hn : ns.length ≤ 63) {R : Rc} (K : ok46 R) : ∀ (xs : List PyData) (n : Nat), n + 3 * xs.length < 100000 → forL (tgN 4) [4, 5, 6, 7, 8, 9] turn47 xs (E47 ns R none none none none none none none none) n = some (.nx, E47 ns R none none none none none none none none, n + 3 * xs.length)
  | [], n, _ => rfl
  | x :: xs, n, h => by
    rw [List.length_cons] at h
    obtain ⟨s5, s6, s7, s8, s9, e⟩ := turn47_ev ns hn K x n (by omega)
    have ih := loop47 ns hn K xs (n + 3) (by omega)
    have e2 : n + 3 * (x :: xs).length = (n + 3) + 3 * xs.length := by rw [List.length_cons]; omega
    rw [e2]
    exact forL47 (e1 := E47 ns R (some (.d x)) none none none none none none none) rfl e rfl ih
theorem all47 {E : Ev} {n : Nat} (hE : ∀ d, faCons (fVar 11) faNil ((wipeE E [11]).set 11 (some (.d d))) n = some ([.d d], n)) : ∀ ds : List PyData, (∀ d ∈ ds, F_read [.d d] n = some (.d (raisedD 14), n)) →
    lcL (tgN 11) [11] tT (fOp2 (seeB (eqD false)) (fCall 1 F_read (faCons (fVar 11) faNil)) (fTup (faCons (fC (.str "raised")) (faCons (fC (.int 14)) faNil)))) ds E n = some ((ds.map fun _ => true).map PyData.bool, n)
  | [], _ => rfl
  | d :: ds, h => lcL_cons (e1 := (wipeE E [11]).set 11 (some (.d d))) rfl rfl (cmp_ev (g := eqD false) (b := raisedD 14) (call_ev (as := [.d d]) (hE d) rfl (h d List.mem_cons_self)) rfl (raised_eq false 14 14)) (all47 hE ds fun x hx => h x (List.mem_cons_of_mem _ hx))
theorem repl47 {y z : Str} {e : Ev} {n : Nat} {x : Str} (h : e[3]? = some (some (.d (.str x)))) (hb : x.length + (x.length + 1) * z.length ≤ 16777216) : fRepl y z (fVar 3) e n = some (.d (.str (Txt.replace x y z)), n) := by
  have h1 : fVar 3 e n = some (.d (.str x), n) := by
    unfold fVar
    rw [h]
  unfold fRepl
  rw [h1]
  exact if_pos hb
theorem ok47_of {R : Rc} (hR : R.Ok) : ok46 R := by
  have t5 := hR.t5
  have s8 := hR.s8
  refine ok46_rd hR.rd (fun s hs r hr => ?_) fun m hm => by have := hR.md m hm; omega
  obtain ⟨j, hj⟩ := List.getElem?_of_mem hs
  have hjl := (List.getElem?_eq_some_iff.mp hj).1
  rcases (hR.st j s hj).2 r hr with ⟨w, hl⟩ | ⟨w, hl⟩
  · exact ⟨.inl w, by omega⟩
  · exact ⟨.inr w, by omega⟩
theorem g_st47 {s rest : FS} {e e1 : Ev} {n n1 : Nat} {v : Sv} {n' : Nat} (h : s e n = some (.nx, e1, n1)) (k : Gives rest e1 n1 v n') : Gives (sSeq s rest) e n v n' := by
  obtain ⟨e', k⟩ := k
  exact ⟨e', seq47 h k⟩
theorem law_true (ns : List Int) (hn : ns.length ≤ 63) : ∃ e' n', b_law (lawE ns) 0 = some (.rt (.d (.bool true)), e', n') := by
  obtain ⟨r, n1, ts, ss, ms, q1, l1, l2, h⟩ := m_some_recipe ns hn 0 (by omega)
  obtain ⟨R, er, hR, ets, ess, ems⟩ := h.plain
  subst er
  have K := ok47_of hR
  have hT := wr_len K
  suffices hg : Gives b_law (lawE ns) 0 (.d (.bool true)) (n1 + 18) by
    obtain ⟨e', hg⟩ := hg
    exact ⟨e', _, hg⟩
  refine g_set (sv := .d R.enc) (n1 := n1) (call_ev (as := [.d (scriptD ns), .st]) rfl rfl q1) rfl ?_
  refine g_set (sv := .d (.str (wrT R))) (n1 := n1) (call_ev (as := [.d R.enc]) rfl rfl (format47 K hR.rd hR.sm n1)) rfl ?_
  have p1 := loop47 ns hn K [.int 0, .int 1, .int 2, .int 3, .int 4, .int 5] n1 (by show n1 + 3 * 6 < 100000; omega)
  refine g_run (xs := [.int 0, .int 1, .int 2, .int 3, .int 4, .int 5]) (n1 := n1) (by kernel_rfl) (by show 6 ≤ 100000; omega) p1 ?_
  let n := n1 + 18
  let T := wrT R
  let E : Option Sv → Ev := fun x10 => E47 ns R none none none none none none x10 none
  let L1 : List PyData := [.none, .int 5, .str "", .str (T ++ "; 0"), .str (" " ++ T), .str (T ++ " "), .str (T ++ ", 0"), .str (Txt.replace T "; " ";")]
  let L2 : List PyData := [.str (Txt.upper T), .str (repS "9" 4000), .str (T ++ "\n")]
  let L3 : List PyData := [.str (Txt.replace T "t0" "t00"), .str (Txt.replace T " t" "  t"), .str (Txt.replace T "t" "u")]
  have big1 : ∀ k, k ≤ 10 → T.length + (T.length + 1) * k ≤ 16777216 := fun k hk => by
    have h1 : T.length ≤ 700 := hT
    have h2 : (T.length + 1) * k ≤ 701 * 10 := Nat.mul_le_mul (by omega) hk
    omega
  have b1 : fLst (faCons (fC .none) (faCons (fC (.int 5)) (faCons (fC (.str "")) (faCons (fOp2 addL (fVar 3) (fC (.str "; 0"))) (faCons (fOp2 addL (fC (.str " ")) (fVar 3)) (faCons (fOp2 addL (fVar 3) (fC (.str " "))) (faCons (fOp2 addL (fVar 3) (fC (.str ", 0"))) (faCons (fRepl "; " ";" (fVar 3)) faNil)))))))) (E none) n = some (.cell L1, n) := by
    have i1 := addS_ev (f := fVar 3) (g := fC (.str "; 0")) (e := E none) (n := n) (x := T) (y := "; 0") rfl rfl (by show _ + 3 ≤ 100000; have : T.length ≤ 700 := hT; omega)
    have i2 := addS_ev (f := fC (.str " ")) (g := fVar 3) (e := E none) (n := n) (x := " ") (y := T) rfl rfl (by show 1 + _ ≤ 100000; have : T.length ≤ 700 := hT; omega)
    have i3 := addS_ev (f := fVar 3) (g := fC (.str " ")) (e := E none) (n := n) (x := T) (y := " ") rfl rfl (by show _ + 1 ≤ 100000; have : T.length ≤ 700 := hT; omega)
    have i4 := addS_ev (f := fVar 3) (g := fC (.str ", 0")) (e := E none) (n := n) (x := T) (y := ", 0") rfl rfl (by show _ + 3 ≤ 100000; have : T.length ≤ 700 := hT; omega)
    have i5 := repl47 (y := "; ") (z := ";") (e := E none) (n := n) (x := T) rfl (big1 1 (by omega))
    exact lst_evR (fa_c (a := .d .none) rfl (fa_c (a := .d (.int 5)) rfl (fa_c (a := .d (.str "")) rfl (fa_c i1 (fa_c i2 (fa_c i3 (fa_c i4 (fa_c i5 fa_n)))))))) (xs := L1) rfl (by show 8 ≤ 1000; omega)
  have b2 : fLst (faCons (fUp (fVar 3)) (faCons (fOp2 (seeB mulS) (fC (.str "9")) (fC (.int 4000))) (faCons (fOp2 addL (fVar 3) (fC (.str "\n"))) faNil))) (E (some (.cell L1))) n = some (.cell L2, n) := by
    have i1 : fUp (fVar 3) (E (some (.cell L1))) n = some (.d (.str (Txt.upper T)), n) := by
      show (if T.length ≤ 5592405 then some (Sv.d (PyData.str (Txt.upper T)), n) else none) = _
      exact if_pos (by have : T.length ≤ 700 := hT; omega)
    have i2 : fOp2 (seeB mulS) (fC (.str "9")) (fC (.int 4000)) (E (some (.cell L1))) n = some (.d (.str (repS "9" 4000)), n) := cmp_ev (a := .str "9") (b := .int 4000) rfl rfl (by kernel_rfl)
    have i3 := addS_ev (f := fVar 3) (g := fC (.str "\n")) (e := E (some (.cell L1))) (n := n) (x := T) (y := "\n") rfl rfl (by show _ + 1 ≤ 100000; have : T.length ≤ 700 := hT; omega)
    exact lst_evR (fa_c i1 (fa_c i2 (fa_c i3 fa_n))) (xs := L2) rfl (by show 3 ≤ 1000; omega)
  have hT7 : T.length ≤ 700 := hT
  have short : ∀ t : Str, t.length ≤ 90000 → t.length + 2 ≤ 100000 := fun t h => by omega
  have rl : ∀ y z : Str, z.length ≤ 3 → (Txt.replace T y z).length ≤ 90000 := fun y z hz => by
    have h1 := TK.replace_len T y z
    have h2 : (T.length + 1) * z.length ≤ 701 * 3 := Nat.mul_le_mul (by omega) hz
    omega
  have g1 : ∀ d ∈ L1, F_read [.d d] n = some (.d (raisedD 14), n) := by
    refine List.forall_mem_cons.mpr ⟨m_read_none n, List.forall_mem_cons.mpr ⟨m_read_five n, List.forall_mem_cons.mpr ⟨m_read_bad (by decide) (fun R' h' _ => bad_semi (by decide +kernel) R' h') n, List.forall_mem_cons.mpr ⟨m_read_bad (short _ (by rw [len47]; show _ + 3 ≤ _; omega)) (fun R' h' _ => bad_part h' K) n, List.forall_mem_cons.mpr ⟨m_read_bad (short _ (by rw [len47]; show 1 + _ ≤ _; omega)) (fun R' h' _ => bad_first h') n, List.forall_mem_cons.mpr ⟨m_read_bad (short _ (by rw [len47]; show _ + 1 ≤ _; omega)) (fun R' h' _ => bad_last h' (c := 32) (by omega)) n, List.forall_mem_cons.mpr ⟨m_read_bad (short _ (by rw [len47]; show _ + 3 ≤ _; omega)) (fun R' h' hr => bad_number h' K hr) n, List.forall_mem_cons.mpr ⟨m_read_bad (short _ (rl _ _ (by decide))) (fun R' h' _ => bad_semicolons h' K) n, fun _ h => nomatch h⟩⟩⟩⟩⟩⟩⟩⟩
  have up : (Txt.upper T).length ≤ 90000 := by
    have h1 : (Txt.upper T).length ≤ 3 * T.length := by have := PyProof.Rows.len_upper T; omega
    omega
  have g2 : ∀ d ∈ L2, F_read [.d d] n = some (.d (raisedD 14), n) := by
    refine List.forall_mem_cons.mpr ⟨m_read_bad (short _ up) (fun R' h' _ => bad_upper h' K) n, List.forall_mem_cons.mpr ⟨m_read_bad (by decide +kernel) (fun R' h' _ => bad_semi (by decide +kernel) R' h') n, List.forall_mem_cons.mpr ⟨m_read_bad (short _ (by rw [len47]; show _ + 1 ≤ _; omega)) (fun R' h' _ => bad_last h' (c := 10) (by omega)) n, fun _ h => nomatch h⟩⟩⟩
  have g12 : ∀ d ∈ L1 ++ L2, F_read [.d d] n = some (.d (raisedD 14), n) := fun d hd => (List.mem_append.mp hd).elim (g1 d) (g2 d)
  have fin : ∀ L : List PyData, L.length ≤ 100 → (∀ d ∈ L, F_read [.d d] n = some (.d (raisedD 14), n)) → Gives (sFrz [10] (sRet (fBi (see1 allG) (faCons (fLc (itSee (fVar 10)) (tgN 11) [11] tT (fOp2 (seeB (eqD false)) (fCall 1 F_read (faCons (fVar 11) faNil)) (fTup (faCons (fC (.str "raised")) (faCons (fC (.int 14)) faNil))))) faNil)))) (E (some (.cell L))) n (.d (.bool true)) n := fun L hl hL => by
    have it : itSee (fVar 10) (E (some (.d (.list L)))) n = some (L, n) := rfl
    have hlc := lc_ev' it (by show L.length ≤ 100000; omega) (all47 (E := E (some (.d (.list L)))) (n := n) (fun _ => rfl) L hL)
    have ha := all_map hlc
    rw [show (L.map fun _ => true).all id = true from by simp] at ha
    exact g_frz (g_ret ha)
  refine g_set (sv := .cell L1) (n1 := n) b1 rfl ?_
  refine g_st47 (e1 := E (some (.cell (L1 ++ L2)))) (n1 := n) (ext_ev b2 rfl (by show 8 + 3 ≤ 100000; omega)) ?_
  have t0 : bT (fOp2 (seeB (inSD false)) (fC (.str "t0")) (fVar 3)) (E (some (.cell (L1 ++ L2)))) n = some (!(Builtin.Str.occurrences T "t0" 0 T.length 1).isEmpty, n) := bt (cmp_ev (a := .str "t0") (b := .str T) (z := .bool (!(Builtin.Str.occurrences T "t0" 0 T.length 1).isEmpty)) rfl rfl (by
    show some (PyData.bool ((!(Builtin.Str.occurrences T "t0" 0 T.length 1).isEmpty) != false)) = _
    rw [Bool.bne_false]))
  cases ht : (!(Builtin.Str.occurrences T "t0" 0 T.length 1).isEmpty) with
  | false =>
    rw [ht] at t0
    refine g_st47 (e1 := E (some (.cell (L1 ++ L2)))) (n1 := n) ?_ (fin _ (by show 11 ≤ 100; omega) g12)
    unfold sIf
    rw [t0]
    rfl
  | true =>
    rw [ht] at t0
    obtain ⟨i, hi⟩ := found_at (y := "t0") (by decide +kernel) ht
    obtain ⟨a, b, e⟩ := pre_cut hi
    have e : tlS (wrT R) = a ++ ([116, 48] ++ b) := e
    obtain ⟨i2, hi2⟩ := hasT_at K (hasT_of K e)
    have w1 := split_two (x := T) (y := "t0") (by decide +kernel) (by decide +kernel) hi
    have w2 := split_two (x := T) (y := " t") (by decide +kernel) (by decide +kernel) hi2
    have g3 : ∀ d ∈ L3, F_read [.d d] n = some (.d (raisedD 14), n) := by
      refine List.forall_mem_cons.mpr ⟨m_read_bad (short _ (rl _ _ (by decide))) (fun R' h' _ => bad_t00 h' w1) n, List.forall_mem_cons.mpr ⟨m_read_bad (short _ (rl _ _ (by decide))) (fun R' h' _ => bad_two h' w2) n, List.forall_mem_cons.mpr ⟨m_read_bad (short _ (rl _ _ (by decide))) (fun R' h' _ => bad_u h' e) n, fun _ h => nomatch h⟩⟩⟩
    have b3 : fLst (faCons (fRepl "t0" "t00" (fVar 3)) (faCons (fRepl " t" "  t" (fVar 3)) (faCons (fRepl "t" "u" (fVar 3)) faNil))) (E (some (.cell (L1 ++ L2)))) n = some (.cell L3, n) :=
      lst_evR (fa_c (repl47 (x := T) rfl (big1 3 (by omega))) (fa_c (repl47 (x := T) rfl (big1 3 (by omega))) (fa_c (repl47 (x := T) rfl (big1 1 (by omega))) fa_n))) (xs := L3) rfl (by show 3 ≤ 1000; omega)
    refine g_st47 (e1 := E (some (.cell ((L1 ++ L2) ++ L3)))) (n1 := n) ?_ (fin _ (by show 14 ≤ 100; omega) fun d hd => (List.mem_append.mp hd).elim (g12 d) (g3 d))
    unfold sIf
    rw [t0]
    exact ext_ev b3 rfl (by show 11 + 3 ≤ 100000; omega)
end Sb
namespace Sb
open PySem PySem.Spec PyProof.Rows L2
theorem ok_law {P : Program} {w : World} {K : PySem.W.Frag} {mg : Str → Option Value} {base : Heap} (T : Tx K mg w) : FnOk P w K mg base CX0 8 T.f_law T.d_law ["_law_script"] (spLaw K) := ok_law_of law_true T
theorem tx_of {w : World} {K : PySem.W.Frag} {h : Heap} {mg : Str → Option Value} (X : K.In h) (G : h.Ns mainGlobals mg) (c : SaysB ask1 w K) (c2 : SaysB ask2 w K) : ∃ T : Tx K mg w, T.f_law = He.ga K "law" ∧ ∀ (s : Shared) (v : Value), BindsTo s T.d_law ⟨[v], []⟩ [("_law_script", v)] := by
  obtain ⟨fd0, D0⟩ := c.def_ 0 (d := dd0) rfl
  have F0 : Fun K "is_number" "is_number" s_is_number (He.ga K "is_number") fd0 := fun_ofD D0
  have b0 := F0.binds (ps := ["value", "least", "most"]) fun _ _ _ _ _ _ us hl => match us, hl with | [_, _, _], _ => rfl
  obtain ⟨fd1, D1⟩ := c.def_ 1 (d := dd1) rfl
  have F1 : Fun K "is_tuple" "is_tuple" s_is_tuple (He.ga K "is_tuple") fd1 := fun_ofD D1
  have b1 := F1.binds (ps := ["value", "least", "most"]) fun _ _ _ _ _ _ us hl => match us, hl with | [_, _, _], _ => rfl
  obtain ⟨fd2, D2⟩ := c.def_ 2 (d := dd2) rfl
  have F2 : Fun K "is_text" "is_text" s_is_text (He.ga K "is_text") fd2 := fun_ofD D2
  have b2 := F2.binds (ps := ["value", "longest"]) fun _ _ _ _ _ _ us hl => match us, hl with | [_, _], _ => rfl
  obtain ⟨fd3, D3⟩ := c.def_ 3 (d := dd3) rfl
  have F3 : Fun K "is_ascending" "is_ascending" s_is_ascending (He.ga K "is_ascending") fd3 := fun_ofD D3
  have b3 := F3.binds (ps := ["values"]) fun _ _ _ _ _ _ us hl => match us, hl with | [_], _ => rfl
  obtain ⟨fd4, D4⟩ := c.def_ 4 (d := dd4) rfl
  have F4 : Fun K "is_thing" "is_thing" s_is_thing (He.ga K "is_thing") fd4 := fun_ofD D4
  have b4 := F4.binds (ps := ["value"]) fun _ _ _ _ _ _ us hl => match us, hl with | [_], _ => rfl
  obtain ⟨fd5, D5⟩ := c.def_ 5 (d := dd5) rfl
  have F5 : Fun K "are_things" "are_things" s_are_things (He.ga K "are_things") fd5 := fun_ofD D5
  have b5 := F5.binds (ps := ["value"]) fun _ _ _ _ _ _ us hl => match us, hl with | [_], _ => rfl
  obtain ⟨fd6, D6⟩ := c.def_ 6 (d := dd6) rfl
  have F6 : Fun K "is_reading" "is_reading" s_is_reading (He.ga K "is_reading") fd6 := fun_ofD D6
  have b6 := F6.binds (ps := ["value", "many_things", "step"]) fun _ _ _ _ _ _ us hl => match us, hl with | [_, _, _], _ => rfl
  obtain ⟨fd7, D7⟩ := c.def_ 7 (d := dd7) rfl
  have F7 : Fun K "is_step" "is_step" s_is_step (He.ga K "is_step") fd7 := fun_ofD D7
  have b7 := F7.binds (ps := ["value", "many_things", "step"]) fun _ _ _ _ _ _ us hl => match us, hl with | [_, _, _], _ => rfl
  obtain ⟨fd8, D8⟩ := c.def_ 8 (d := dd8) rfl
  have F8 : Fun K "are_steps" "are_steps" s_are_steps (He.ga K "are_steps") fd8 := fun_ofD D8
  have b8 := F8.binds (ps := ["value", "many_things"]) fun _ _ _ _ _ _ us hl => match us, hl with | [_, _], _ => rfl
  obtain ⟨fd9, D9⟩ := c.def_ 9 (d := dd9) rfl
  have F9 : Fun K "is_made" "is_made" s_is_made (He.ga K "is_made") fd9 := fun_ofD D9
  have b9 := F9.binds (ps := ["value", "many_steps"]) fun _ _ _ _ _ _ us hl => match us, hl with | [_, _], _ => rfl
  obtain ⟨fd10, D10⟩ := c.def_ 10 (d := dd10) rfl
  have F10 : Fun K "is_recipe" "is_recipe" s_is_recipe (He.ga K "is_recipe") fd10 := fun_ofD D10
  have b10 := F10.binds (ps := ["value"]) fun _ _ _ _ _ _ us hl => match us, hl with | [_], _ => rfl
  obtain ⟨fd11, D11⟩ := c.def_ 11 (d := dd11) rfl
  have F11 : Fun K "check_recipe" "check_recipe" s_check_recipe (He.ga K "check_recipe") fd11 := fun_ofD D11
  have b11 := F11.binds (ps := ["value"]) fun _ _ _ _ _ _ us hl => match us, hl with | [_], _ => rfl
  obtain ⟨fd12, D12⟩ := c.def_ 12 (d := dd12) rfl
  have F12 : Fun K "written_thing" "written_thing" s_written_thing (He.ga K "written_thing") fd12 := fun_ofD D12
  have b12 := F12.binds (ps := ["thing"]) fun _ _ _ _ _ _ us hl => match us, hl with | [_], _ => rfl
  obtain ⟨fd13, D13⟩ := c.def_ 13 (d := dd13) rfl
  have F13 : Fun K "written_step" "written_step" s_written_step (He.ga K "written_step") fd13 := fun_ofD D13
  have b13 := F13.binds (ps := ["step"]) fun _ _ _ _ _ _ us hl => match us, hl with | [_], _ => rfl
  obtain ⟨fd14, D14⟩ := c.def_ 14 (d := dd14) rfl
  have F14 : Fun K "written" "written" s_written (He.ga K "written") fd14 := fun_ofD D14
  have b14 := F14.binds (ps := ["recipe"]) fun _ _ _ _ _ _ us hl => match us, hl with | [_], _ => rfl
  obtain ⟨fd15, D15⟩ := c.def_ 15 (d := dd15) rfl
  have F15 : Fun K "format_recipe" "format_recipe" s_format_recipe (He.ga K "format_recipe") fd15 := fun_ofD D15
  have b15 := F15.binds (ps := ["recipe"]) fun _ _ _ _ _ _ us hl => match us, hl with | [_], _ => rfl
  obtain ⟨fd16, D16⟩ := c.def_ 16 (d := dd16) rfl
  have F16 : Fun K "read_thing" "read_thing" s_read_thing (He.ga K "read_thing") fd16 := fun_ofD D16
  have b16 := F16.binds (ps := ["text"]) fun _ _ _ _ _ _ us hl => match us, hl with | [_], _ => rfl
  obtain ⟨fd17, D17⟩ := c.def_ 17 (d := dd17) rfl
  have F17 : Fun K "read_number" "read_number" s_read_number (He.ga K "read_number") fd17 := fun_ofD D17
  have b17 := F17.binds (ps := ["text"]) fun _ _ _ _ _ _ us hl => match us, hl with | [_], _ => rfl
  obtain ⟨fd18, D18⟩ := c.def_ 18 (d := dd18) rfl
  have F18 : Fun K "read_reading" "read_reading" s_read_reading (He.ga K "read_reading") fd18 := fun_ofD D18
  have b18 := F18.binds (ps := ["text"]) fun _ _ _ _ _ _ us hl => match us, hl with | [_], _ => rfl
  obtain ⟨fd19, D19⟩ := c.def_ 19 (d := dd19) rfl
  have F19 : Fun K "read_step" "read_step" s_read_step (He.ga K "read_step") fd19 := fun_ofD D19
  have b19 := F19.binds (ps := ["text"]) fun _ _ _ _ _ _ us hl => match us, hl with | [_], _ => rfl
  obtain ⟨fd20, D20⟩ := c.def_ 20 (d := dd20) rfl
  have F20 : Fun K "parse_recipe" "parse_recipe" s_parse_recipe (He.ga K "parse_recipe") fd20 := fun_ofD D20
  have b20 := F20.binds (ps := ["text"]) fun _ _ _ _ _ _ us hl => match us, hl with | [_], _ => rfl
  obtain ⟨fd21, D21⟩ := c.def_ 21 (d := dd21) rfl
  have F21 : Fun K "_law_cell_at" "_law_cell_at" s_cell_at (He.ga K "_law_cell_at") fd21 := fun_ofD D21
  have b21 := F21.binds (ps := ["_law_script", "_law_k"]) fun _ _ _ _ _ _ us hl => match us, hl with | [_, _], _ => rfl
  obtain ⟨fd22, D22⟩ := c.def_ 22 (d := dd22) rfl
  have F22 : Fun K "_law_mixed" "_law_mixed" s_mixed (He.ga K "_law_mixed") fd22 := fun_ofD D22
  have b22 := F22.binds (ps := ["_law_script", "_law_k", "_law_many"]) fun _ _ _ _ _ _ us hl => match us, hl with | [_, _, _], _ => rfl
  obtain ⟨fd23, D23⟩ := c.def_ 23 (d := dd23) rfl
  have F23 : Fun K "_law_draw" "_law_draw" s_draw (He.ga K "_law_draw") fd23 := fun_ofD D23
  have b23 := F23.binds (ps := ["_law_script", "_law_state", "_law_many"]) fun _ _ _ _ _ _ us hl => match us, hl with | [_, _, _], _ => rfl
  obtain ⟨fd24, D24⟩ := c.def_ 24 (d := dd24) rfl
  have F24 : Fun K "_law_pick" "_law_pick" s_pick (He.ga K "_law_pick") fd24 := fun_ofD D24
  have b24 := F24.binds (ps := ["_law_script", "_law_state", "_law_some"]) fun _ _ _ _ _ _ us hl => match us, hl with | [_, _, _], _ => rfl
  obtain ⟨fd25, D25⟩ := c.def_ 25 (d := dd25) rfl
  have F25 : Fun K "_law_which" "_law_which" s_which (He.ga K "_law_which") fd25 := fun_ofD D25
  have b25 := F25.binds (ps := ["_law_e"]) fun _ _ _ _ _ _ us hl => match us, hl with | [_], _ => rfl
  obtain ⟨fd26, D26⟩ := c.def_ 26 (d := dd26) rfl
  have F26 : Fun K "_law_some_of" "_law_some_of" s_some_of (He.ga K "_law_some_of") fd26 := fun_ofD D26
  have b26 := F26.binds (ps := ["_law_script", "_law_state", "_law_some", "_law_count"]) fun _ _ _ _ _ _ us hl => match us, hl with | [_, _, _, _], _ => rfl
  obtain ⟨fd27, D27⟩ := c.def_ 27 (d := dd27) rfl
  have F27 : Fun K "_law_some_thing" "_law_some_thing" s_some_thing (He.ga K "_law_some_thing") fd27 := fun_ofD D27
  have b27 := F27.binds (ps := ["_law_script", "_law_state"]) fun _ _ _ _ _ _ us hl => match us, hl with | [_, _], _ => rfl
  obtain ⟨fd28, D28⟩ := c.def_ 28 (d := dd28) rfl
  have F28 : Fun K "_law_some_step" "_law_some_step" s_some_step (He.ga K "_law_some_step") fd28 := fun_ofD D28
  have b28 := F28.binds (ps := ["_law_script", "_law_state", "_law_things", "_law_count"]) fun _ _ _ _ _ _ us hl => match us, hl with | [_, _, _, _], _ => rfl
  obtain ⟨fd29, D29⟩ := c.def_ 29 (d := dd29) rfl
  have F29 : Fun K "_law_some_recipe" "_law_some_recipe" s_some_recipe (He.ga K "_law_some_recipe") fd29 := fun_ofD D29
  have b29 := F29.binds (ps := ["_law_script", "_law_state"]) fun _ _ _ _ _ _ us hl => match us, hl with | [_, _], _ => rfl
  obtain ⟨fd30, D30⟩ := c.def_ 30 (d := dd30) rfl
  have F30 : Fun K "_law_read" "_law_read" s_read (He.ga K "_law_read") fd30 := fun_ofD D30
  have b30 := F30.binds (ps := ["_law_text"]) fun _ _ _ _ _ _ us hl => match us, hl with | [_], _ => rfl
  obtain ⟨fd31, D31⟩ := c.def_ 31 (d := dd31) rfl
  have F31 : Fun K "law" "law" s_law (He.ga K "law") fd31 := fun_ofD D31
  have b31 := F31.binds (ps := ["_law_script"]) fun _ _ _ _ _ _ us hl => match us, hl with | [_], _ => rfl
  obtain ⟨ck0, g0⟩ := He.int_ok X G (c.fact 32 (f := .int "MOST_THINGS" 5) rfl)
  obtain ⟨ck1, g1⟩ := He.int_ok X G (c.fact 33 (f := .int "MOST_TEXTS" 4) rfl)
  obtain ⟨ck2, g2⟩ := He.int_ok X G (c.fact 34 (f := .int "LONGEST_TEXT" 4) rfl)
  obtain ⟨ck3, g3⟩ := He.int_ok X G (c.fact 35 (f := .int "MOST_WORLDS" 256) rfl)
  obtain ⟨ck4, g4⟩ := He.int_ok X G (c.fact 36 (f := .int "MOST_STEPS" 8) rfl)
  obtain ⟨ck5, g5⟩ := He.int_ok X G (c.fact 37 (f := .int "MOST_MADE" 3) rfl)
  obtain ⟨ck7, g7⟩ := He.str_ok X G (c.fact 39 (f := .str "PARTS" "; ") rfl)
  obtain ⟨ck8, g8⟩ := He.str_ok X G (c.fact 40 (f := .str "ITEMS" ", ") rfl)
  obtain ⟨ck9, g9⟩ := He.str_ok X G (c.fact 41 (f := .str "CHOICES" "|") rfl)
  obtain ⟨ck10, g10⟩ := He.str_ok X G (c.fact 42 (f := .str "WORDS" " ") rfl)
  obtain ⟨ck11, g11⟩ := He.str_ok X G (c.fact 43 (f := .str "EMPTY" "-") rfl)
  obtain ⟨ck14, g14⟩ := He.str_ok X G (c.fact 46 (f := .str "DIGITS" "0123456789") rfl)
  have t_BuildError := c2.ext 3 (p := exT "BuildError") rfl
  have t_InvalidRecipe := c2.ext 4 (p := exT "InvalidRecipe") rfl
  have t_InvalidActs := c2.ext 5 (p := exT "InvalidActs") rfl
  have t_InvalidAct := c2.ext 6 (p := exT "InvalidAct") rfl
  have t_InvalidWorld := c2.ext 7 (p := exT "InvalidWorld") rfl
  have t_InvalidWorlds := c2.ext 8 (p := exT "InvalidWorlds") rfl
  have t_InvalidStep := c2.ext 9 (p := exT "InvalidStep") rfl
  have t_InvalidOffers := c2.ext 10 (p := exT "InvalidOffers") rfl
  have t_InvalidWish := c2.ext 11 (p := exT "InvalidWish") rfl
  have t_InvalidNumber := c2.ext 12 (p := exT "InvalidNumber") rfl
  have t_NotLeft := c2.ext 13 (p := exT "NotLeft") rfl
  have t_Unlike := c2.ext 14 (p := exT "Unlike") rfl
  have t_NotOffered := c2.ext 15 (p := exT "NotOffered") rfl
  have t_Bought := c2.ext 16 (p := exT "Bought") rfl
  have t_NothingToUndo := c2.ext 17 (p := exT "NothingToUndo") rfl
  have t_ParseError := c2.ext 18 (p := exT "ParseError") rfl
  have tB := c2.ext 19 (p := exB "BuildError") rfl
  have e_InvalidRecipe := c2.ext 20 (p := exE "InvalidRecipe" "BuildError") rfl
  have s_InvalidRecipe := c2.ext 22 (p := exS "InvalidRecipe" [("InvalidRecipe", true), ("InvalidActs", false), ("InvalidAct", false), ("InvalidWorld", false), ("InvalidWorlds", false), ("InvalidStep", false), ("InvalidOffers", false), ("InvalidWish", false), ("InvalidNumber", false), ("NotLeft", false), ("Unlike", false), ("NotOffered", false), ("Bought", false), ("NothingToUndo", false), ("ParseError", false)]) rfl
  have e_ParseError := c2.ext 21 (p := exE "ParseError" "BuildError") rfl
  have s_ParseError := c2.ext 23 (p := exS "ParseError" [("InvalidRecipe", false), ("InvalidActs", false), ("InvalidAct", false), ("InvalidWorld", false), ("InvalidWorlds", false), ("InvalidStep", false), ("InvalidOffers", false), ("InvalidWish", false), ("InvalidNumber", false), ("NotLeft", false), ("Unlike", false), ("NotOffered", false), ("Bought", false), ("NothingToUndo", false), ("ParseError", true)]) rfl
  exact ⟨⟨⟨⟨⟨⟨He.ga K "is_number", fd0, F0, He.glo_ok X G (c.fact 0 (f := .glo "is_number") rfl), b0, He.ga K "is_tuple", fd1, F1, He.glo_ok X G (c.fact 1 (f := .glo "is_tuple") rfl), b1, He.ga K "is_text", fd2, F2, He.glo_ok X G (c.fact 2 (f := .glo "is_text") rfl), b2, He.ga K "is_ascending", fd3, F3, He.glo_ok X G (c.fact 3 (f := .glo "is_ascending") rfl), b3, He.ga K "is_thing", fd4, F4, He.glo_ok X G (c.fact 4 (f := .glo "is_thing") rfl), b4, He.ga K "are_things", fd5, F5, He.glo_ok X G (c.fact 5 (f := .glo "are_things") rfl), b5, He.ga K "is_reading", fd6, F6, He.glo_ok X G (c.fact 6 (f := .glo "is_reading") rfl), b6, He.ga K "is_step", fd7, F7, He.glo_ok X G (c.fact 7 (f := .glo "is_step") rfl), b7, He.ga K "are_steps", fd8, F8, He.glo_ok X G (c.fact 8 (f := .glo "are_steps") rfl), b8, He.ga K "is_made", fd9, F9, He.glo_ok X G (c.fact 9 (f := .glo "is_made") rfl), b9, He.ga K "is_recipe", fd10, F10, He.glo_ok X G (c.fact 10 (f := .glo "is_recipe") rfl), b10, He.ga K "check_recipe", fd11, F11, He.glo_ok X G (c.fact 11 (f := .glo "check_recipe") rfl), b11⟩, He.ga K "written_thing", fd12, F12, He.glo_ok X G (c.fact 12 (f := .glo "written_thing") rfl), b12, He.ga K "written_step", fd13, F13, He.glo_ok X G (c.fact 13 (f := .glo "written_step") rfl), b13, He.ga K "written", fd14, F14, He.glo_ok X G (c.fact 14 (f := .glo "written") rfl), b14, He.ga K "format_recipe", fd15, F15, He.glo_ok X G (c.fact 15 (f := .glo "format_recipe") rfl), b15, He.ga K "read_thing", fd16, F16, He.glo_ok X G (c.fact 16 (f := .glo "read_thing") rfl), b16, He.ga K "read_number", fd17, F17, He.glo_ok X G (c.fact 17 (f := .glo "read_number") rfl), b17, He.ga K "read_reading", fd18, F18, He.glo_ok X G (c.fact 18 (f := .glo "read_reading") rfl), b18, He.ga K "read_step", fd19, F19, He.glo_ok X G (c.fact 19 (f := .glo "read_step") rfl), b19, He.ga K "parse_recipe", fd20, F20, He.glo_ok X G (c.fact 20 (f := .glo "parse_recipe") rfl), b20, He.ga K "_law_cell_at", fd21, F21, He.glo_ok X G (c.fact 21 (f := .glo "_law_cell_at") rfl), b21, He.ga K "_law_mixed", fd22, F22, He.glo_ok X G (c.fact 22 (f := .glo "_law_mixed") rfl), b22, He.ga K "_law_draw", fd23, F23, He.glo_ok X G (c.fact 23 (f := .glo "_law_draw") rfl), b23⟩, He.ga K "_law_pick", fd24, F24, He.glo_ok X G (c.fact 24 (f := .glo "_law_pick") rfl), b24, He.ga K "_law_which", fd25, F25, He.glo_ok X G (c.fact 25 (f := .glo "_law_which") rfl), b25, He.ga K "_law_some_of", fd26, F26, He.glo_ok X G (c.fact 26 (f := .glo "_law_some_of") rfl), b26, He.ga K "_law_some_thing", fd27, F27, He.glo_ok X G (c.fact 27 (f := .glo "_law_some_thing") rfl), b27, He.ga K "_law_some_step", fd28, F28, He.glo_ok X G (c.fact 28 (f := .glo "_law_some_step") rfl), b28, He.ga K "_law_some_recipe", fd29, F29, He.glo_ok X G (c.fact 29 (f := .glo "_law_some_recipe") rfl), b29, He.ga K "_law_read", fd30, F30, He.glo_ok X G (c.fact 30 (f := .glo "_law_read") rfl), b30, He.ga K "law", fd31, F31, He.glo_ok X G (c.fact 31 (f := .glo "law") rfl), b31, ck0, g0, ck1, g1, ck2, g2, ck3, g3, ck4, g4, ck5, g5, He.ga K "READINGS", He.glo_ok X G (c.fact 38 (f := .glo "READINGS") rfl), he_dm (c.dic 0 (x := ("READINGS", ["join", "sort", "turn", "first", "rest", "less", "same", "pick"])) rfl) (c2.ext 0 (p := exV "READINGS" mREADINGS) rfl), ck7, g7, ck8, g8, ck9, g9⟩, ck10, g10, ck11, g11, He.ga K "SIGNS", He.glo_ok X G (c.fact 44 (f := .glo "SIGNS") rfl), he_ds (c.dic 1 (x := ("SIGNS", ["thing", "step"])) rfl) (c2.ext 1 (p := exW "SIGNS" mSIGNS) rfl), He.ga K "KINDS", He.glo_ok X G (c.fact 45 (f := .glo "KINDS") rfl), he_ds (c.dic 2 (x := ("KINDS", ["t", "s"])) rfl) (c2.ext 2 (p := exW "KINDS" mKINDS) rfl), ck14, g14, He.free_ok X G (c.fact 47 (f := .free "len") rfl), He.free_ok X G (c.fact 48 (f := .free "int") rfl), He.free_ok X G (c.fact 49 (f := .free "str") rfl), He.free_ok X G (c.fact 50 (f := .free "bool") rfl), He.free_ok X G (c.fact 51 (f := .free "tuple") rfl), He.free_ok X G (c.fact 52 (f := .free "list") rfl), He.free_ok X G (c.fact 53 (f := .free "isinstance") rfl), He.free_ok X G (c.fact 54 (f := .free "range") rfl), He.free_ok X G (c.fact 55 (f := .free "min") rfl), He.free_ok X G (c.fact 56 (f := .free "all") rfl), He.free_ok X G (c.fact 57 (f := .free "sorted") rfl), He.free_ok X G (c.fact 58 (f := .free "set") rfl), He.free_ok X G (c.fact 59 (f := .free "ValueError") rfl), He.ga K "BuildError", He.glo_ok X G (c.fact 60 (f := .glo "BuildError") rfl), He.ga K "InvalidRecipe", He.glo_ok X G (c.fact 61 (f := .glo "InvalidRecipe") rfl), He.ga K "InvalidActs", He.glo_ok X G (c.fact 62 (f := .glo "InvalidActs") rfl), He.ga K "InvalidAct", He.glo_ok X G (c.fact 63 (f := .glo "InvalidAct") rfl), He.ga K "InvalidWorld", He.glo_ok X G (c.fact 64 (f := .glo "InvalidWorld") rfl), He.ga K "InvalidWorlds", He.glo_ok X G (c.fact 65 (f := .glo "InvalidWorlds") rfl), He.ga K "InvalidStep", He.glo_ok X G (c.fact 66 (f := .glo "InvalidStep") rfl), He.ga K "InvalidOffers", He.glo_ok X G (c.fact 67 (f := .glo "InvalidOffers") rfl), He.ga K "InvalidWish", He.glo_ok X G (c.fact 68 (f := .glo "InvalidWish") rfl), He.ga K "InvalidNumber", He.glo_ok X G (c.fact 69 (f := .glo "InvalidNumber") rfl), He.ga K "NotLeft", He.glo_ok X G (c.fact 70 (f := .glo "NotLeft") rfl), He.ga K "Unlike", He.glo_ok X G (c.fact 71 (f := .glo "Unlike") rfl), He.ga K "NotOffered", He.glo_ok X G (c.fact 72 (f := .glo "NotOffered") rfl), He.ga K "Bought", He.glo_ok X G (c.fact 73 (f := .glo "Bought") rfl), He.ga K "NothingToUndo", He.glo_ok X G (c.fact 74 (f := .glo "NothingToUndo") rfl), He.ga K "ParseError", He.glo_ok X G (c.fact 75 (f := .glo "ParseError") rfl), he_err (c.fact 76 (f := .exc "InvalidRecipe") rfl) e_InvalidRecipe tB t_BuildError, he_val e_InvalidRecipe, kit_self⟩, he_not s_InvalidRecipe 0 1 t_InvalidActs rfl rfl, he_not s_InvalidRecipe 0 2 t_InvalidAct rfl rfl, he_not s_InvalidRecipe 0 3 t_InvalidWorld rfl rfl, he_not s_InvalidRecipe 0 4 t_InvalidWorlds rfl rfl, he_not s_InvalidRecipe 0 5 t_InvalidStep rfl rfl, he_not s_InvalidRecipe 0 6 t_InvalidOffers rfl rfl, he_not s_InvalidRecipe 0 7 t_InvalidWish rfl rfl, he_not s_InvalidRecipe 0 8 t_InvalidNumber rfl rfl, he_not s_InvalidRecipe 0 9 t_NotLeft rfl rfl, he_not s_InvalidRecipe 0 10 t_Unlike rfl rfl, he_not s_InvalidRecipe 0 11 t_NotOffered rfl rfl, he_not s_InvalidRecipe 0 12 t_Bought rfl rfl, he_not s_InvalidRecipe 0 13 t_NothingToUndo rfl rfl, he_not s_InvalidRecipe 0 14 t_ParseError rfl rfl, he_err (c.fact 77 (f := .exc "ParseError") rfl) e_ParseError tB t_BuildError, he_val e_ParseError, he_not s_ParseError 14 0 t_InvalidRecipe rfl rfl, he_not s_ParseError 14 1 t_InvalidActs rfl rfl, he_not s_ParseError 14 2 t_InvalidAct rfl rfl, he_not s_ParseError 14 3 t_InvalidWorld rfl rfl, he_not s_ParseError 14 4 t_InvalidWorlds rfl rfl, he_not s_ParseError 14 5 t_InvalidStep rfl rfl, he_not s_ParseError 14 6 t_InvalidOffers rfl rfl, he_not s_ParseError 14 7 t_InvalidWish rfl rfl, he_not s_ParseError 14 8 t_InvalidNumber rfl rfl, he_not s_ParseError 14 9 t_NotLeft rfl rfl, he_not s_ParseError 14 10 t_Unlike rfl rfl, he_not s_ParseError 14 11 t_NotOffered rfl rfl, he_not s_ParseError 14 12 t_Bought rfl rfl, he_not s_ParseError 14 13 t_NothingToUndo rfl rfl, kit_self⟩, rfl, fun s v => FunD.bindsA (ps := ["_law_script"]) D31 (fun _ _ _ _ _ _ us hl => match us, hl with | [_], _ => rfl) s [v] rfl⟩
end Sb
open PySem PySem.W PySem.Calls PyProof.Rows in
theorem PySem.Challenge.cw_samebuilds_k47_whole_spoiled_texts_holds : PySem.Challenge.rw_samebuilds_k47_whole_spoiled_texts.Holds := by
  w_on; o_law
  refine HandSHeadRun.head_any (r := OpenLaw.row PySem.Challenge.rw_samebuilds_k47_whole_spoiled_texts) (q := view (OpenLaw.row PySem.Challenge.rw_samebuilds_k47_whole_spoiled_texts).prog [66]) (H := Sb.hk) (ob := Sb.obP 5 Sb.ask1 Sb.ask2) (M := 8600) (loose := Sb.hdNames) (d := HandSHeadRun.topDef (OpenLaw.row PySem.Challenge.rw_samebuilds_k47_whole_spoiled_texts).prog 66) (kwd := []) Sb.obP_eq
    (by kernel_rfl) (fun s => by kernel_rfl) Sb.hdRun (by kernel_rfl) (by kernel_rfl) (by kernel_rfl) (by rfl) (by first | assumption | decide +kernel) (by decide +kernel) ⟨rfl, rfl, rfl, rfl, rfl, by decide +kernel⟩ ?hw ?hc
  case hw => w_witness2
  case hc =>
    refine L2.walk_ofE (l := PySem.Challenge.rw_samebuilds_k47_whole_spoiled_texts) (n := 63) (k := 8) (x := "_law_script") (CX := L2.CX0) rfl (by decide) (by kernel_rfl) ⟨rfl, by decide, by decide⟩ ?F (fun _ _ _ _ z => z)
    intro w mg fa h Y G hmg0
    obtain ⟨K, KX, c, c2⟩ := Y
    have hmg : mg ("law" : PySem.Str) = some (.ref fa) := by
      have e : (HandSHeadRun.topDef (OpenLaw.row PySem.Challenge.rw_samebuilds_k47_whole_spoiled_texts).prog 66).name = ("law" : PySem.Str) := by kernel_rfl
      rw [← e]
      exact hmg0
    obtain ⟨T, eT, hB⟩ := Sb.tx_of KX G c c2
    have g := T.g_law
    rw [hmg] at g
    cases g
    exact ⟨K, T.d_law, Sb.spLaw K, KX, hB, fun H a ns hl O hS => ⟨a, ns, rfl, O, hS, hl, fun _ => rfl⟩, fun base _ _ => Sb.ok_law T⟩
