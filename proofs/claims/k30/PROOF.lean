import PyProof.Rows.All
import Wide.All
import OpenK.AllK
import Wide.FinOn
import HandS.Head0
import HandS.Head1
import HandS.Head2
import HandS.HeadEnd
import HandS.HeadHook1
import HandS.HeadHook2
import HandS.IsInst
import HandS.Wide
import HandS.Words
import HandS.ForMost
import HandS.ForExc
import HandS.TupAny
import HandS.Deep
import HandS.Conv
import HandS.Zip
import HandS.SortKw
import KE.SortKeyHeap
import KE.DataEq
import HandS.WideBits
import OpenK.KOps
import HandS.OwnEq
import HandS.More
import KE.KDictSum
import KE.SortCalls
import HandS.ExcInit
import KE.KExcInit
import KE.GoesMore
import KE.GoesEnum
import KE.GoesNew
import PyProof.DictValues
import PyProof.DictIter
import KE.KDictWalk
import HandS.DictSubView
import HandS.ExcIs
import HandS.Defaults
import HandS.Call
import HandS.ExcField
import HandS.ExcValue
import HandS.Style
import HandS.DictComp
import HandS.FStr
import HandS.RaiseMore
import HandS.ClsMeth
import HandS.MakeKw
import HandS.DictEq
import HandS.TryOnly
import HandS.TryMany
import HandS.Dict
import HandS.Star
import HandS.Property
import HandS.Text
import KE.KStrOpen
import PySem.Challenge.RW_hookvows_k30_what_is_an_act
set_option Elab.async false
set_option linter.all false
set_option maxRecDepth 100000
set_option maxHeartbeats 4000000
namespace Hv
open PySem PySem.Spec PyProof.Rows L2
/-- classes of the text, then the built-in ones bB -/
def ownsThen (bB : List Value) : List Value → Bool
  | .ref _ :: r => ownsThen bB r
  | l => l == bB
/-- what the module's names and the table of modules reach in n steps -/
def reach (g : Addr → Option Obj) : Nat → List Addr
  | 0 => [mainGlobals, sysModules, cStatics]
  | n + 1 => He.growD g (reach g n)
def obsB (ck : PySem.W.Frag → Bool) (fn : List He.DefD) (K : PySem.W.Frag) : He.AlD := (ck K && fn.all fun d => d.ok K, fn.map fun d => He.fnW K d.at_)
def SaysB (ck : PySem.W.Frag → Bool) (fn : List He.DefD) (K : PySem.W.Frag) : Prop := obsB ck fn K = He.valD fn
def obsBG (n : Nat) (ck : PySem.W.Frag → Bool) (fn : List He.DefD) (g : Addr → Option Obj) : He.AlD := obsB ck fn (He.frG g (reach g n))
def hookB (n : Nat) (ck : PySem.W.Frag → Bool) (fn : List He.DefD) : PySem.W.Hook where
  α := He.AlD
  obs := fun s => obsBG n ck fn s.heap.get?
  val := fun _ => He.valD fn
  says := fun _ h => ∃ K : PySem.W.Frag, K.In h ∧ SaysB ck fn K
  of := fun _ _ e => ⟨_, He.frG_in, e⟩
  keeps := fun _ _ _ ⟨K, hK, c⟩ k => ⟨K, PySem.W.Frag.In.keeps hK k, c⟩
theorem obsBG_eq {n : Nat} {ck : PySem.W.Frag → Bool} {fn : List He.DefD} {g : Addr → Option Obj} {s : Shared} (h : ∀ a, g a = s.heap.get? a) : obsBG n ck fn g = (hookB n ck fn).obs s := by
  have e : g = s.heap.get? := funext h
  rw [e] <;> rfl
def isV (a : Option (Option Value)) (b : Value) : Bool := decide (a = some (some b))
def isT (a : Option Value) (b : Value) : Bool := decide (a = some b)
theorem band {a b : Bool} (h : (a && b) = true) : a = true ∧ b = true := Bool.and_eq_true_iff.mp h
def clsB (K : PySem.W.Frag) (C : Addr) (bB : List Value) (nw : String) : Bool := match K.lookup C with
  | some ⟨.type t, _, .cls cd, sl⟩ => (match cd.mro, sl.toList with
    | .ref C' :: bm, [_, _, _, _, some (.builtin n), _] => decide (t = "type") && (decide (C' = C) && (decide (n = nw) && (!cd.hasDel && (cd.hasDict && ownsThen bB bm))))
    | _, _ => false)
  | _ => false
/-- the questions of one class -/
def classB (K : PySem.W.Frag) (x : Str) (bB : List Value) (nw : String) (fs : List Str) : Bool :=
  isV (PySem.W.nsIn K mainGlobals x) (.ref (He.ga K x)) && (clsB K (He.ga K x) bB nw && (isV (PySem.W.findIn K (.ref (He.ga K x)) "__setattr__") (.builtin "object.__setattr__") &&
  (decide (PySem.W.subIn K (.ref (He.ga K x)) (.type "BaseException") = some true) && (isT (PySem.W.typeIn K (.ref (He.ga K x))) (.type "type") && (PySem.W.keepIn K (.ref (He.ga K x)) &&
  (isV (PySem.W.findIn K (.ref (He.ga K x)) "__getattribute__") (.builtin "BaseException.__getattribute__") && (decide (PySem.W.findIn K (.ref (He.ga K x)) "__getattr__" = some none) && (PySem.W.hasDictIn K (He.ga K x) &&
  (isV (PySem.W.findIn K (.ref (He.ga K x)) "__class__") (.builtin "object.__class__") && (decide (PySem.W.mroIn K (He.ga K x) (.type "object") = some true) &&
  (isV (PySem.W.findIn K (.ref (He.ga K x)) "__init__") (.ref (He.ma K (He.ga K x) "__init__")) && (isT (PySem.W.typeIn K (.ref (He.ma K (He.ga K x) "__init__"))) (.type "function") &&
  fs.all fun f => decide (PySem.W.findIn K (.ref (He.ga K x)) f = some none)))))))))))))
/-- what holds of all -/
def allB (K : PySem.W.Frag) : Bool := isV (PySem.W.specialIn K (.builtin "object.__class__") "__get__") (.builtin "getset_descriptor.__get__") && decide (PySem.W.takesIn K (.builtin "object.__class__") = some true)
end Hv
namespace Fu
open PySem PySem.Spec PyProof.Rows L2 Hv
/-- what a value is, without addresses; cell k: the k-th of the objects that are shared and changed -/
inductive T where
  | non | bl (b : Bool) | int (i : Int) | str (x : Str) | ty (n : String)
  | lst (xs : List T) | tup (xs : List T) | dct (kvs : List (Key × T))
  | ins (c : Str) (fs : List (Str × T)) | glob (x : Str) | cell (k : Nat)
  /-- the script -/
  | scr (ns : List Int)
  /-- a caught exception, its dict, its class, its attributes -/
  | exc (a : Addr) (d : Option Addr) (c : Str) (fs : List (Str × T))
  /-- an exception that was made, its class, its attributes -/
  | ev (c : Str) (fs : List (Str × T))
abbrev Tag := Sum String Str
def tagU (K : PySem.W.Frag) : Tag → Value
  | .inl n => .type n
  | .inr x => .ref (He.ga K x)
def tagB (K : PySem.W.Frag) : Tag → Bool
  | .inl _ => true
  | .inr x => (He.Fa.glo x).ok K
def isB (K : PySem.W.Frag) (t : List (Tag × Tag × Bool)) : Bool := t.all fun p => tagB K p.1 && (tagB K p.2.1 && decide (PySem.W.kitOne K (tagU K p.1) (tagU K p.2.1) = some p.2.2))
def ixB (K : PySem.W.Frag) (t : List (Str × Tag × Bool)) : Bool := t.all fun p => (He.Fa.glo p.1).ok K && (tagB K p.2.1 && decide (PySem.W.kitOne K (.ref (He.ga K p.1)) (tagU K p.2.1) = some p.2.2))
def hdB (K : PySem.W.Frag) (c : Str) (t : List (Str × Bool)) : Bool := (He.Fa.glo c).ok K && t.all fun p => (He.Fa.glo p.1).ok K && decide (PySem.W.exmOne K (.ref (He.ga K p.1)) (.ref (He.ga K c)) = some p.2)
def nfB (K : PySem.W.Frag) (c : Str) (t : List Tag) : Bool := (He.Fa.glo c).ok K && t.all fun g => tagB K g && PySem.W.notFirst K (He.ga K c) (tagU K g)
/-- a class's whole number f -/
def conB (K : PySem.W.Frag) (C : Addr) (f : Str) (t : T) : Bool := match t, PySem.W.findIn K (.ref C) f with
  | .int i, some (some (.int j tk)) => decide (i = j) && (decide (PySem.W.specialIn K (.int j tk) "__get__" = some none) && !PySem.W.copiedNames.contains f)
  | _, _ => false
def coB (K : PySem.W.Frag) (t : List ((Str × Str) × T)) : Bool := t.all fun p => (He.Fa.glo p.1.1).ok K && conB K (He.ga K p.1.1) p.1.2 p.2
def ccvB (K : PySem.W.Frag) (C : Addr) (f : Str) (t : T) : Bool := match t, PySem.W.findCls K (.ref C) (.type "type") f with
  | .int i, some (.val (.int j tk)) => decide (i = j)
  | _, _ => false
def ccB (K : PySem.W.Frag) (t : List ((Str × Str) × T)) : Bool := t.all fun p => (He.Fa.glo p.1.1).ok K && (PySem.W.readsIn K (He.ga K p.1.1) (.type "type") && (decide (PySem.W.specialIn K (.ref (He.ga K p.1.1)) "__getattribute__" = some (some (.builtin "type.__getattribute__"))) && ccvB K (He.ga K p.1.1) p.1.2 p.2))
def flB (K : PySem.W.Frag) (t : List (Str × List Str)) : Bool := t.all fun p => (He.Fa.glo p.1).ok K && p.2.all fun f => (He.Fa.noat p.1 f).ok K
/-- a class of plain instances -/
def plB (K : PySem.W.Frag) (c : Str) : Bool := (He.Fa.glo c).ok K && ((He.Fa.cls c).ok K && ((He.Fa.mkr c).ok K && (isV (PySem.W.findIn K (.ref (He.ga K c)) "__class__") (.builtin "object.__class__") && decide (PySem.W.mroIn K (He.ga K c) (.type "object") = some true))))
def neB (K : PySem.W.Frag) (c : Str) : Bool := isV (PySem.W.findIn K (.ref (He.ga K c)) "__ne__") (.builtin "object.__ne__")
def ixG (K : PySem.W.Frag) (an : List (Str × List Tag)) (dom : List Tag) : Bool := an.all fun p => (He.Fa.glo p.1).ok K && dom.all fun g => tagB K g && decide (PySem.W.kitOne K (.ref (He.ga K p.1)) (tagU K g) = some (p.2.any fun d => decide (d = g)))
def smB (K : PySem.W.Frag) : Bool := match K.lookup sysModules with
  | some o => decide (o.cls ≠ .type "list")
  | none => false
def textsB : List Value → List Str → Bool
  | [], [] => true
  | .str z _ :: us, y :: ys => decide (z = y) && textsB us ys
  | _, _ => false
def ctB (K : PySem.W.Frag) (x : Str) (zs : List Str) : Bool := (He.Fa.glo x).ok K && match K.lookup (He.ga K x) with
  | some ⟨c, _, .seq its _, _⟩ => decide (c = .type "tuple") && (decide (its.size ≤ 1000) && textsB its.toList zs)
  | _ => false
end Fu
set_option Elab.async false
set_option linter.all false
set_option maxRecDepth 100000
set_option maxHeartbeats 4000000
namespace Fu
open PySem PySem.Spec PyProof.Rows L2 Hv
/-! # a run in two -/
theorem run_two {α β γ : Type} {o : Option α} {f : α → β} {g : α → γ} {n : Nat} {ck ckA ckB : PySem.W.Frag → Bool} {fn : List He.DefD} {get : α → Addr → Option Obj} {b : β} {c : γ}
    (hA : o.map (fun s => obsBG n ckA fn (get s)) = some (He.valD fn)) (hB : o.map (fun s => (f s, g s, obsBG n ckB [] (get s))) = some (b, c, He.valD []))
    (hc : ∀ K, ck K = (ckA K && ckB K) := by intro K; rfl) :
    o.map (fun s => (f s, g s, obsBG n ck fn (get s))) = some (b, c, He.valD fn) := by
  cases o with
  | none => cases hA
  | some s =>
    have hA : obsBG n ckA fn (get s) = He.valD fn := Option.some.inj hA
    have hB : (f s, g s, obsBG n ckB [] (get s)) = (b, c, He.valD []) := Option.some.inj hB
    simp only [Prod.mk.injEq] at hB
    obtain ⟨h1, h2, h3⟩ := hB
    have a1 := congrArg (fun z : He.AlD => z.1) hA
    have a2 := congrArg (fun z : He.AlD => z.2) hA
    have b1 := congrArg (fun z : He.AlD => z.1) h3
    have e : obsBG n ck fn (get s) = He.valD fn := by
      refine Prod.ext ?_ a2
      show (ck _ && fn.all fun d => d.ok _) = true
      have a1 : (ckA (He.frG (get s) (reach (get s) n)) && fn.all fun d => d.ok (He.frG (get s) (reach (get s) n))) = true := a1
      have b1 : (ckB (He.frG (get s) (reach (get s) n)) && ([] : List He.DefD).all fun d => d.ok (He.frG (get s) (reach (get s) n))) = true := b1
      obtain ⟨a3, a4⟩ := band a1
      obtain ⟨b3, _⟩ := band b1
      rw [hc, a3, b3, a4]
      rfl
    show some (f s, g s, obsBG n ck fn (get s)) = _
    rw [h1, h2, e]
end Fu
set_option Elab.async false
set_option linter.all false
set_option maxRecDepth 100000
set_option maxHeartbeats 4000000
namespace Hv
open PySem PySem.Spec PyProof.Rows L2
/-! # a head's questions of properties' getters, too -/
def fnAt (K : PySem.W.Frag) (a : Addr) : He.FnW := match K.lookup a with
  | some ⟨_, _, .func fd, _⟩ => some (fd.name, fd.qualname, fd.params, fd.body, fd.scope, fd.globals, fd.closure, fd.builtins)
  | _ => none
def okAt (K : PySem.W.Frag) (a : Addr) (d : He.DefD) : Bool := PySem.W.keepIn K (.ref a) && (match K.lookup a with
  | some ⟨_, _, .func fd, _⟩ => PySem.W.codeIn K fd.code d.qual && (He.dflB K fd.defaults (d.dvs K) && He.kwdB K fd.kwdefaults (d.kws K))
  | _ => false)
/-- the getter of the property m of the class x -/
def prA (K : PySem.W.Frag) (x m : Str) : Addr := match PySem.W.recIn K (He.ma K (He.ga K x) m) "property" with
  | some (.ref g :: _) => g
  | _ => 0
def obsP (ps : List ((Str × Str) × He.DefD)) (K : PySem.W.Frag) : He.AlD := (ps.all fun p => okAt K (prA K p.1.1 p.1.2) p.2, ps.map fun p => fnAt K (prA K p.1.1 p.1.2))
def valP (ps : List ((Str × Str) × He.DefD)) : He.AlD := (true, ps.map fun p => p.2.val)
def hookP (n : Nat) (ck : PySem.W.Frag → Bool) (fn : List He.DefD) (ps : List ((Str × Str) × He.DefD)) : PySem.W.Hook where
  α := He.AlD × He.AlD
  obs := fun s => (obsBG n ck fn s.heap.get?, obsP ps (He.frG s.heap.get? (reach s.heap.get? n)))
  val := fun _ => (He.valD fn, valP ps)
  says := fun _ h => ∃ K : PySem.W.Frag, K.In h ∧ SaysB ck fn K ∧ obsP ps K = valP ps
  of := fun _ _ e => ⟨_, He.frG_in, congrArg (fun z : He.AlD × He.AlD => z.1) e, congrArg (fun z : He.AlD × He.AlD => z.2) e⟩
  keeps := fun _ _ _ ⟨K, hK, c⟩ k => ⟨K, PySem.W.Frag.In.keeps hK k, c⟩
theorem obsPG_eq {n : Nat} {ck : PySem.W.Frag → Bool} {fn : List He.DefD} {ps : List ((Str × Str) × He.DefD)} {g : Addr → Option Obj} {s : Shared} (h : ∀ a, g a = s.heap.get? a) :
    (obsBG n ck fn g, obsP ps (He.frG g (reach g n))) = (hookP n ck fn ps).obs s := by
  have e : g = s.heap.get? := funext h
  rw [e] <;> rfl
def prB (K : PySem.W.Frag) (x m : Str) : Bool := isV (PySem.W.findIn K (.ref (He.ga K x)) m) (.ref (He.ma K (He.ga K x) m)) && (isV (PySem.W.specialIn K (.ref (He.ma K (He.ga K x) m)) "__get__") (.builtin "property.__get__") &&
  (decide (PySem.W.takesIn K (.ref (He.ma K (He.ga K x) m)) = some true) && (match PySem.W.recIn K (He.ma K (He.ga K x) m) "property" with
    | some (.ref _ :: _) => true
    | _ => false)))
end Hv
set_option Elab.async false
set_option linter.all false
set_option maxRecDepth 100000
set_option maxHeartbeats 4000000
namespace Fu
open PySem PySem.Spec PyProof.Rows L2 Hv
def top (i : Nat) : Stmt := PySem.Challenge.pw_hookvows_k30_what_is_an_act.main.body.getD i (.Pass ⟨0, 0, 0, 0⟩)
def tIs : List (Tag × Tag × Bool) := [((.inl "NoneType"), (.inl "bool"), false), ((.inl "NoneType"), (.inl "int"), false), ((.inl "NoneType"), (.inl "list"), false), ((.inl "NoneType"), (.inl "str"), false), ((.inl "NoneType"), (.inl "tuple"), false), ((.inl "bool"), (.inl "bool"), true), ((.inl "bool"), (.inl "int"), true), ((.inl "bool"), (.inl "list"), false), ((.inl "bool"), (.inl "str"), false), ((.inl "bool"), (.inl "tuple"), false), ((.inl "dict"), (.inl "bool"), false), ((.inl "dict"), (.inl "int"), false), ((.inl "dict"), (.inl "list"), false), ((.inl "dict"), (.inl "str"), false), ((.inl "dict"), (.inl "tuple"), false), ((.inl "int"), (.inl "bool"), false), ((.inl "int"), (.inl "int"), true), ((.inl "int"), (.inl "list"), false), ((.inl "int"), (.inl "str"), false), ((.inl "int"), (.inl "tuple"), false), ((.inl "list"), (.inl "bool"), false), ((.inl "list"), (.inl "int"), false), ((.inl "list"), (.inl "list"), true), ((.inl "list"), (.inl "str"), false), ((.inl "list"), (.inl "tuple"), false), ((.inl "str"), (.inl "bool"), false), ((.inl "str"), (.inl "int"), false), ((.inl "str"), (.inl "list"), false), ((.inl "str"), (.inl "str"), true), ((.inl "str"), (.inl "tuple"), false), ((.inl "tuple"), (.inl "bool"), false), ((.inl "tuple"), (.inl "int"), false), ((.inl "tuple"), (.inl "list"), false), ((.inl "tuple"), (.inl "str"), false), ((.inl "tuple"), (.inl "tuple"), true)]
def tIx : List (Str × Tag × Bool) := [("InvalidScript", (.inr "HookError"), true), ("InvalidScript", (.inr "StateError"), false)]
def tCc : List ((Str × Str) × T) := [(("Boxes", "MOST_VALUES"), .int 4)]
def tFl : List (Str × List Str) := [("Script", (["_rows"] : List Str))]
def tHd_InvalidScript : List (Str × Bool) := [(("InvalidScript" : Str), true)]
abbrev dTop (x : Str) (i : Nat) : He.DefD := ⟨(x, none), x, x, defArgs (top i), defBody (top i), defScope (top i), [], []⟩
abbrev dIn (c m q : Str) (i j : Nat) : He.DefD := ⟨(c, some m), m, q, defArgs (inClass (top i) j), defBody (inClass (top i) j), defScope (inClass (top i) j), [], []⟩
def fnA : List He.DefD := [dTop "is_integer" 15, dTop "is_name" 17, dTop "is_list" 19, dTop "_law_pot" 29, dTop "_law_draw" 30, dTop "_law_is_label" 37, dTop "is_count" 16, dTop "_law_pick" 31, dTop "_law_is_act" 38, dTop "is_below" 18, dTop "_law_label" 32, dTop "_law_odd_digit" 34, dTop "is_act" 26, dTop "_law_odd_label" 33, dTop "_law_act" 35, dTop "_law_spoilt" 36, dTop "_law_told" 39, dTop "_law_rows_right" 40, dTop "_law_right" 41, dTop "law" 42, dIn "Script" "rows" "Script.rows" 27 1, dIn "Script" "__len__" "Script.__len__" 27 3, dIn "Script" "__init__" "Script.__init__" 27 0, dIn "InvalidScript" "__init__" "InvalidScript.__init__" 5 0]
def psA : List ((Str × Str) × He.DefD) := [(("Script", "cost"), ⟨("", none), "cost", "Script.cost", defArgs (inClass (top 27) 2), defBody (inClass (top 27) 2), defScope (inClass (top 27) 2), [], []⟩)]
def faL : List He.Fa := [.free "abs", .free "all", .free "bool", .free "divmod", .free "enumerate", .free "int", .free "isinstance", .free "len", .free "list", .free "max", .free "min", .free "range", .free "repr", .free "str", .free "sum", .free "tuple", .glo "is_integer", .glo "is_name", .glo "is_list", .glo "_law_pot", .glo "_law_draw", .glo "_law_is_label", .glo "is_count", .glo "_law_pick", .glo "_law_is_act", .glo "is_below", .glo "_law_label", .glo "_law_odd_digit", .glo "is_act", .glo "_law_odd_label", .glo "_law_act", .glo "_law_spoilt", .glo "_law_told", .glo "_law_rows_right", .glo "_law_right", .glo "law", .glo "Boxes", .glo "HookError", .glo "StateError", .str "LETTERS" "abcdefghijklmnopqrstuvwxyz", .str "LETTERS_AND_DIGITS" "abcdefghijklmnopqrstuvwxyz0123456789", .int "LONGEST_NAME" (8), .meth "Script" "rows", .meth "Script" "__len__", .meth "Script" "__init__"]
def ck (K : PySem.W.Frag) : Bool := (allB K && ((faL.all fun f => f.ok K) && (ctB K "PLAIN_ACTS" ["look", "inner", "swallow", "answer", "skip", "fail"] && (isB K tIs && (smB K && (ixB K tIx && (ccB K tCc && (flB K tFl && (prB K "Script" "cost" && (plB K "Script" && (hdB K "InvalidScript" tHd_InvalidScript && classB K "InvalidScript" [.type "ValueError", .type "Exception", .type "BaseException", .type "object"] "ValueError.__new__" ["position"])))))))))))
def loose : List Str := [("_wall" : Str), ("HookError" : Str), ("InvalidSizes" : Str), ("InvalidState" : Str), ("InvalidScript" : Str), ("MissingError" : Str), ("UnknownBox" : Str), ("StateError" : Str), ("LimitError" : Str), ("TooMany" : Str), ("LETTERS" : Str), ("LETTERS_AND_DIGITS" : Str), ("LONGEST_NAME" : Str), ("is_integer" : Str), ("is_count" : Str), ("is_name" : Str), ("is_below" : Str), ("is_list" : Str), ("LEAST_VALUES" : Str), ("Boxes" : Str), ("_all_states" : Str), ("PLAIN_ACTS" : Str), ("is_act" : Str), ("Script" : Str), ("_law_pot" : Str), ("_law_draw" : Str), ("_law_pick" : Str), ("_law_label" : Str), ("_law_odd_label" : Str), ("_law_odd_digit" : Str), ("_law_act" : Str), ("_law_spoilt" : Str), ("_law_is_label" : Str), ("_law_is_act" : Str), ("_law_told" : Str), ("_law_rows_right" : Str), ("_law_right" : Str)]
end Fu
set_option Elab.async false
set_option linter.all false
set_option maxRecDepth 100000
set_option maxHeartbeats 4000000
namespace Fu
open PySem PySem.Spec PyProof.Rows L2 Hv
abbrev R : PySem.W.OpenRow := PySem.W.OpenLaw.row PySem.Challenge.rw_hookvows_k30_what_is_an_act
abbrev hk : PySem.W.Hook := hookP 5 ck fnA psA
def ob (s : PySem.W.SharedT) : He.AlD × He.AlD := (obsBG 5 ck fnA (HandSHeadRun.getT s), obsP psA (He.frG (HandSHeadRun.getT s) (reach (HandSHeadRun.getT s) 5)))
theorem ob_eq (s : PySem.W.SharedT) : ob s = hk.obs s.abs := obsPG_eq (HandSHeadRun.getT_eq s)
theorem run (w : World) : HandSHeadRun.RunEq R (PySem.W.view R.prog [42]) hk ob 20000 loose w := by
  intro os
  kernel_rfl
end Fu
set_option Elab.async false
set_option linter.all false
set_option maxRecDepth 100000
set_option maxHeartbeats 4000000
namespace Hv
open PySem PySem.Spec PyProof.Rows L2
/-! ## heaps: what stands but for the objects at S -/
def Hid (S : List Addr) (H : Hp) : Hp := fun a => if a ∈ S then none else H a
def Kp (S : List Addr) (H H' : Hp) : Prop := ∀ b o, b ∉ S → H b = some o → H' b = some o
theorem Kp.rfl' {S : List Addr} {H : Hp} : Kp S H H := fun _ _ _ e => e
theorem Kp.trans {S : List Addr} {H H1 H2 : Hp} (a : Kp S H H1) (b : Kp S H1 H2) : Kp S H H2 := fun c o n e => b c o n (a c o n e)
theorem Kp.new {S : List Addr} {H H1 : Hp} {p : Addr} {o : HO} (a : Kp S H H1) (hp : H1 p = none) : Kp S H (upd H1 p o) := fun c u n e => by
  have q := a c u n e
  rw [upd_ne (ne_of_none q hp)]
  exact q
theorem Kp.put {S : List Addr} {H H1 : Hp} {p : Addr} {o : HO} (a : Kp S H H1) (hp : p ∈ S) : Kp S H (upd H1 p o) := fun c u n e => by
  rw [upd_ne (fun z => by subst z; exact n hp)]
  exact a c u n e
theorem Kp.weak {S S' : List Addr} {H H1 : Hp} (a : Kp S H H1) (h : ∀ b ∈ S, b ∈ S') : Kp S' H H1 := fun c u n e => a c u (fun z => n (h c z)) e
theorem Kp.same {S : List Addr} {H H1 : Hp} (a : Kp S H H1) : Same (Hid S H) (Hid S H1) := fun c u e => by
  unfold Hid at *
  split at e
  · cases e
  · rename_i n
    rw [if_neg n]
    exact a c u n e
theorem Hid.le {S : List Addr} {H : Hp} : Same (Hid S H) H := fun c u e => by
  unfold Hid at e
  split at e
  · cases e
  · exact e
theorem Hid.sub {S S' : List Addr} {H : Hp} (h : ∀ b ∈ S', b ∈ S) : Same (Hid S H) (Hid S' H) := fun c u e => by
  unfold Hid at *
  split at e
  · cases e
  · rename_i n
    rw [if_neg (fun z => n (h c z))]
    exact e
theorem Hid.at {S : List Addr} {H : Hp} {a : Addr} {o : HO} (h : H a = some o) (n : a ∉ S) : Hid S H a = some o := by
  unfold Hid
  rw [if_neg n]
  exact h
/-! ## the readings, step by step -/
section
variable {σ : L2.St} {H : Hp} {Q : VK} {K : PySem.W.Frag}
theorem rdVar {i : Nat} {v : V} (e : σ[i]? = some (some v)) (q : Q v H) : tVar i σ H Q := ⟨v, e, q⟩
theorem rdC {v : V} (q : Q v H) : tC v σ H Q := q
theorem rdOp {r : R2} {ta tb : TE} (q : ta σ H fun x H1 => tb σ H1 fun y H2 => r x y H2 Q) : tOp r ta tb σ H Q := q
theorem rdCB {r : List V → Hp → VK → Prop} {t : TA} (q : t σ H fun vs H1 => r vs H1 Q) : tCB r t σ H Q := q
theorem rdCons {te : TE} {t : TA} {Q : List V → Hp → Prop} (q : te σ H fun x H1 => t σ H1 fun xs H2 => Q (x :: xs) H2) : tCons te t σ H Q := q
theorem rdNil {Q : List V → Hp → Prop} (q : Q [] H) : tNil σ H Q := q
theorem rdCall {sp : Sp} {dvs : List V} {E : XK} {t : TA} (q : t σ H fun vs H1 => sp (vs ++ dvs) H1 Q E) : tCall sp dvs E t σ H Q := q
theorem rdLst {t : TA} (q : t σ H fun xs H1 => xs.length ≤ sizeLine ∧ ∀ p, H1 p = none → Q (.ref p) (upd H1 p (.lst xs))) : tLst t σ H Q := q
theorem rdTup {t : TA} (q : t σ H fun xs H1 => xs.length ≤ sizeLine ∧ ∀ p, H1 p = none → Q (.ref p) (upd H1 p (.tup xs))) : tTup t σ H Q := q
theorem rdIfE {t : TT} {ta tb : TE} (q : t σ H fun c H1 => if c = true then ta σ H1 Q else tb σ H1 Q) : tIf t ta tb σ H Q := q
theorem rdAndV {ta tb : TE} (q : ta σ H fun x H1 => ∃ c, x = .bl c ∧ if c = true then tb σ H1 Q else Q (.bl false) H1) : tAndV ta tb σ H Q := q
theorem rdOrV {ta tb : TE} (q : ta σ H fun x H1 => ∃ c, x = .bl c ∧ if c = true then Q (.bl true) H1 else tb σ H1 Q) : tOrV ta tb σ H Q := q
theorem rdNotV {ta : TE} (q : ta σ H fun x H1 => ∃ c, x = .bl c ∧ Q (.bl (!c)) H1) : tNotV ta σ H Q := q
theorem rdTest {t : TE} {Q : Bool → Hp → Prop} (q : t σ H fun x H' => ∃ k, x = .bl k ∧ Q k H') : tTest t σ H Q := q
theorem rdB {t : TE} {Q : Bool → Hp → Prop} (q : t σ H fun x H1 => ∃ c, x = .bl c ∧ Q c H1) : tB t σ H Q := q
theorem rdAnd {t u : TT} {Q : Bool → Hp → Prop} (q : t σ H fun c H1 => if c = true then u σ H1 Q else Q false H1) : tAnd t u σ H Q := q
theorem rdOr {t u : TT} {Q : Bool → Hp → Prop} (q : t σ H fun c H1 => if c = true then Q true H1 else u σ H1 Q) : tOr t u σ H Q := q
theorem rdNot {t : TT} {Q : Bool → Hp → Prop} (q : t σ H fun c H1 => Q (!c) H1) : tNot t σ H Q := q
theorem rdSeq {D : Ends} {t u : TS} (q : t { D with nx := u D } σ H) : tSeq t u D σ H := q
theorem rdIfS {D : Ends} {c : TT} {t u : TS} (q : c σ H fun b H1 => if b = true then t D σ H1 else u D σ H1) : tIfS c t u D σ H := q
theorem rdNext {D : Ends} (q : D.nx σ H) : tNext D σ H := q
theorem rdRet {D : Ends} {te : TE} (q : te σ H D.rt) : tRet te D σ H := q
theorem rdRetN {D : Ends} (q : D.rt .non H) : tRetN D σ H := q
theorem rdDrop {D : Ends} {te : TE} (q : te σ H fun _ H1 => D.nx σ H1) : tDrop te D σ H := q
theorem rdAsg {D : Ends} {te : TE} {g : TG} (q : te σ H fun x H1 => g x σ H1 D.nx) : tAsg te g D σ H := q
variable {R : L2.St → Hp → Prop}
theorem rdgName {i : Nat} {v : V} (q : R (σ.set i (some v)) H) : gName i v σ H R := q
theorem rdgNil (q : R σ H) : gNil [] σ H R := ⟨rfl, q⟩
theorem rdgCons {t : TG} {u : TGs} {v : V} {r : List V} (q : t v σ H fun σ' H' => u r σ' H' R) : gCons t u (v :: r) σ H R := ⟨v, r, rfl, q⟩
theorem rdgSub {to ti : TE} {t : TSet} {v : V} (q : to σ H fun o H1 => ti σ H1 fun i H2 => t o i v H2 fun H3 => R σ H3) : gSub to ti t v σ H R := q
theorem rdgTup {n : Nat} {t : TGs} {a : Addr} {xs : List V} (h : SqT K H a xs) (hn : xs.length = n) (q : t xs σ H R) : gTup K n t (.ref a) σ H R := ⟨a, xs, rfl, h, hn, q⟩
/-! values -/
theorem rvI0 {g : Int → Int → V} {i j : Int} (q : Q (g i j) H) : rI0 g (.int i) (.int j) H Q := ⟨i, j, rfl, rfl, q⟩
theorem rvI {C : Int → Int → Prop} {g : Int → Int → V} {i j : Int} (c : C i j) (q : Q (g i j) H) : rI C g (.int i) (.int j) H Q := ⟨i, j, rfl, rfl, c, q⟩
theorem rvIxL {p : Addr} {xs : List V} {i : Int} {v : V} (h : SqL K H p xs) (e : atI xs i = some v) (q : Q v H) : rIxL K (.ref p) (.int i) H Q := ⟨p, xs, i, v, rfl, rfl, h, e, q⟩
theorem rvSetL {p : Addr} {xs : List V} {k : Int} {j : Nat} {v : V} {R : Hp → Prop} (h : H p = some (.lst xs)) (e : ixN xs.length k = some j) (q : R (upd H p (.lst (xs.set j v)))) : rSetL (.ref p) (.int k) v H R := ⟨p, xs, k, j, rfl, rfl, h, e, q⟩
theorem rvInt {i : Int} {Q : VK} (q : Q (.int i) H) : (fun (xs : List V) (H : Hp) (Q : VK) => (∃ i, xs = [.int i] ∧ Q (.int i) H) ∨ ∃ k, xs = [.bl k] ∧ Q (.int (if k then 1 else 0)) H) [.int i] H Q := .inl ⟨i, rfl, q⟩
end

/-! ## defs that are told of the guards, too -/
section
variable {P : Program} {w : World} {K : PySem.W.Frag} {mg : Str → Option Value} {base : Heap} {k : Nat} {f : Addr} {fd : FuncData} {ps : List Str} {sp : Sp}
/-- a def keeps its promise wherever it is called with room for k and with no repr under way -/
structure FnG (P : Program) (w : World) (K : PySem.W.Frag) (mg : Str → Option Value) (base : Heap) (k : Nat) (f : Addr) (fd : FuncData) (ps : List Str) (sp : Sp) : Prop where
  len : ∀ vs H Q E, sp vs H Q E → vs.length = ps.length
  go : ∀ (A : Around) (up : List Env) (s : Shared) (H : Hp) (ar : Args) (us : List Value) (vs : List V) (Q : VK) (E : XK), Room k A → A.guards = some [] → Env0 P w K mg base A up s H →
    BindsTo s fd ar (ps.zip us) → Vals vs us → sp vs H Q E → codeAny (model P w) A (.call (.ref f) ar) (CR (L2.CX P w) up P w H s Q E) s
theorem FnG.more {j : Nat} (F : FnG P w K mg base j f fd ps sp) (h : j ≤ k) : FnG P w K mg base k f fd ps sp :=
  ⟨F.len, fun A up s H ar us vs Q E hr => F.go A up s H ar us vs Q E (hr.mono h)⟩
theorem guards_deeper {A : Around} {e : Env} (h : A.guards = some []) : (A.deeper e).guards = some [] := h
/-- a def of the text by its body's reading -/
theorem Fun.okG {x qual : Str} {st : Stmt} {N : List Str} (F : Fun K x qual st f fd) (S : FnScope N ps (defScope st)) (len : ∀ vs H Q E, sp vs H Q E → vs.length = ps.length)
    (hb : ∀ (cd : Value) (A : Around) (up : List Env) (s : Shared) (H : Hp) (vs : List V) (Q : VK) (E : XK), Room k (A.deeper (envOfC qual (defScope st) s.heap.objs.size f cd)) → (A.deeper (envOfC qual (defScope st) s.heap.objs.size f cd)).guards = some [] →
      sp vs H Q E → ∃ t, PSs (cxOf (L2.CX P w) P w K mg base N qual (defScope st) f cd A up s H E) (defBody st) t ∧ t { nx := fun _ G => Q .non G, rt := Q } (L2.start N vs) H) :
    FnG P w K mg base (k + 1) f fd ps sp := by
  obtain ⟨oc, od, kV, doc, pm, an, cd, ct, osl, rfl, lk, code⟩ := F.ex
  refine ⟨len, fun A up s H ar us vs Q E hr hG e0 bd rv hs => ?_⟩
  have len1 := len _ _ _ _ hs
  have inK : K.In s.heap := e0.mod.kin.keeps fun b o q => (e0.bs b o q).1
  have nolim : s.heap.NoLimit := e0.mod.nolimit.keeps fun b o q => (e0.bs b o q).1
  have kinds : ∀ z ∈ ps.zip us, (defScope st).names.lookup z.1 = some .local ∨ ((defScope st).names.lookup z.1 = some .cell ∧ ((cellsFrom (s.heap.objs.size + 1) (defScope st).names []).lookup z.1).isSome = true) := by
    rintro ⟨n, v⟩ hz
    exact (S.par n (List.of_mem_zip hz).1).imp id fun q => ⟨q, PySem.W.cellsFrom_some _ _ _ (.inl q)⟩
  refine codeAny_call_function hr.depth (inK _ _ lk) rfl S.co S.gen rfl (PySem.W.codeRec_of inK code) (bd _ _ _ _ (wpAny_newFunctionEnv_cells S.kind kinds fun env he s1 C => ?_))
  subst he
  obtain ⟨t, ht, hq⟩ := hb cd A up s H vs Q E (hr.deeper _) (guards_deeper hG) hs
  have J := inv_start (CX := L2.CX P w) (P := P) (w := w) (mg := mg) (base := base) (qual := qual) (f := f) (cd := cd) (E := E) S hr.hd e0 len1 rv C
  refine ⟨nolim.keeps C.toInCall.keep, codeAny_func (wpAny_mono (ht.run [] s1 (L2.start N vs) H _ J hq) (fun fl s2 h2 => ?_) fun _ _ z => z)⟩
  cases fl with
  | ret u => exact (by obtain ⟨v, σ2, G, J2, r2, q2⟩ := h2; exact ⟨v, G, J2.os, J2.bare, J2.base, J2.hok, r2, q2⟩)
  | next => exact (by obtain ⟨σ2, G, J2, q2⟩ := h2; exact ⟨.non, G, J2.os, J2.bare, J2.base, J2.hok, rfl, q2⟩)
  | brk => exact (by obtain ⟨σ2, G, J2, q2⟩ := h2; exact q2.elim)
  | cont => exact (by obtain ⟨σ2, G, J2, q2⟩ := h2; exact q2.elim)
/-- a def that stands at the top under the name x -/
structure Cal (P : Program) (w : World) (K : PySem.W.Frag) (mg : Str → Option Value) (base : Heap) (k : Nat) (x : Str) (ps : List Str) (sp : Sp) : Prop where
  ex : ∃ (f : Addr) (fd : FuncData), mg x = some (.ref f) ∧ PySem.W.keepIn K (.ref f) = true ∧ Binds K fd ps [] ∧ FnG P w K mg base k f fd ps sp
/-- the text's part of that -/
structure TopDef (K : PySem.W.Frag) (mg : Str → Option Value) (x : Str) (st : Stmt) (ps : List Str) : Prop where
  ex : ∃ (f : Addr) (fd : FuncData), mg x = some (.ref f) ∧ Fun K x x st f fd ∧ Binds K fd ps []
theorem TopDef.cal {x : Str} {st : Stmt} {N : List Str} (T : TopDef K mg x st ps) (S : FnScope N ps (defScope st)) (len : ∀ vs H Q E, sp vs H Q E → vs.length = ps.length)
    (hb : ∀ (f : Addr) (cd : Value) (A : Around) (up : List Env) (s : Shared) (H : Hp) (vs : List V) (Q : VK) (E : XK), Room k (A.deeper (envOfC x (defScope st) s.heap.objs.size f cd)) → (A.deeper (envOfC x (defScope st) s.heap.objs.size f cd)).guards = some [] →
      sp vs H Q E → ∃ t, PSs (cxOf (L2.CX P w) P w K mg base N x (defScope st) f cd A up s H E) (defBody st) t ∧ t { nx := fun _ G => Q .non G, rt := Q } (L2.start N vs) H) :
    Cal P w K mg base (k + 1) x ps sp := by
  obtain ⟨f, fd, m, F, b⟩ := T.ex
  exact ⟨f, fd, m, F.kp, b, Fun.okG F S len fun cd A up s H vs Q E => hb f cd A up s H vs Q E⟩
end
section
variable {X : Cx} {k : Nat} {x : Str} {ps : List Str} {sp : Sp} {E : XK} {p pos : Pos} {e : Expr} {es : List Expr} {t : TA}
theorem runG {f : Addr} {fd : FuncData} {pins : List (Addr × Obj)} {σ : L2.St} {H : Hp} {s : Shared} {Q : VK} {us : List Value} {vs : List V} (F : FnG X.prog X.w X.K X.mg X.base k f fd ps sp) (hr : Room k X.A) (hG : X.A.guards = some [])
    (hb : Binds X.K fd ps []) (hx : Passes (L2.CX X.prog X.w) X E) (I : Inv X pins σ H s) (r : Vals vs us) (h : sp vs H Q E) : wpAny (model X.prog X.w) X.A (call (.ref f) us) (EP X pins σ Q) X.xe s := by
  have hl : (us ++ []).length = ps.length := by
    rw [List.append_nil, ← r.length]
    exact F.len _ _ _ _ h
  have bt := hb s us I.kIn hl
  rw [List.append_nil] at bt
  refine wpAny_call (codeAny_mono (F.go X.A X.stack s H ⟨us, []⟩ us vs Q E hr hG I.env0 bt r h) fun res s2 h2 => ?_)
  match res, h2 with
  | .error e, h2 => exact hx pins σ H s e s2 I h2
  | .ok (.ret u), h2 => exact I.after h2
/-- x(e, ..), x a def of the top -/
theorem pe_callD (D : Cal X.prog X.w X.K X.mg X.base k x ps sp) (hr : Room k X.A) (hG : X.A.guards = some []) (hg : Gl X x) (hx : Passes (L2.CX X.prog X.w) X E) (ha : PA X (e :: es) t)
    (hdb : (x == ("__debug__" : Str)) = false := by decide) (hs : starEach (e :: es) X.env = (false, eval e X.env) :: starEach es X.env := by rfl) (hp : (backTo pos (starEach es X.env)).any (·.1) = false := by rfl) :
    PE X (.Call (.Name x p) (e :: es) [] pos) (tCall sp [] E t) := by
  obtain ⟨f, fd, m, kp, b, F⟩ := D.ex
  refine ⟨fun pins s σ H Q I h => wpAny_Call_Name_kw (ld_glob I hg m ?_ hdb)⟩
  refine PySem.W.callWith_K (h₀ := X.base) I.ok.mod.kin kp (thn (ha.run pos pins s σ H _ I h) fun us s1 q => ?_) hs hp
  obtain ⟨vs, H1, I1, r, q⟩ := q
  exact ⟨I1.kIn, runG F hr hG b hx I1 r (by rw [List.append_nil] at q; exact q)⟩
theorem pe_callD0 (D : Cal X.prog X.w X.K X.mg X.base k x ps sp) (hr : Room k X.A) (hG : X.A.guards = some []) (hg : Gl X x) (hx : Passes (L2.CX X.prog X.w) X E)
    (hdb : (x == ("__debug__" : Str)) = false := by decide) : PE X (.Call (.Name x p) [] [] pos) (tCall sp [] E tNil) := by
  obtain ⟨f, fd, m, kp, b, F⟩ := D.ex
  refine ⟨fun pins s σ H Q I h => wpAny_Call_Name_kw (ld_glob I hg m ?_ hdb)⟩
  exact PySem.W.callWith_K0 I.kIn kp (runG (us := []) F hr hG b hx I .nil h)
/-- nothing is wanted of an exception: none comes -/
theorem passN : Passes (L2.CX X.prog X.w) X (fun _ _ _ => False) := fun pins σ H s e s2 I h => by
  obtain ⟨a, B, G, c, d, _, _, _, _, _, _, _, z⟩ := h
  exact z.elim
theorem units65 {A : Around} {j : Nat} (hr : Room j A) : A.units + 65 < cLine := by have := hr.un; omega
end

/-! ## operators by the values met -/
def addR (K : PySem.W.Frag) : R2 := fun x y H Q => rI0 (fun i j => .int (i + j)) x y H Q ∨ (∃ i j, x = .str i ∧ y = .str j ∧ i.length + j.length ≤ sizeLine ∧ Q (.str (i ++ j)) H) ∨ rCat x y H Q ∨ rCatA K x y H Q
def mulR : R2 := fun x y H Q => rI CMul (fun i j => .int (i * j)) x y H Q ∨ rRep x y H Q
def deepR (K : PySem.W.Frag) (g : PyData → PyData → Bool) : R2 := fun x y H Q => ∃ d e, Dp K H x d ∧ Dp K H y e ∧ min d.depth e.depth ≤ 60 ∧ Q (.bl (g d e)) H
/-- the parts of a list or a tuple that are data -/
def partsR (K : PySem.W.Frag) (g : List PyData → PyData → Bool) : R2 := fun x y H Q => ∃ d ds, Dp K H x d ∧ (Dp K H y (.list ds) ∨ Dp K H y (.tuple ds)) ∧ d.depth ≤ 60 ∧ Q (.bl (g ds d)) H
def eqR (K : PySem.W.Frag) : R2 := fun x y H Q => rEq x y H Q ∨ deepR K PyData.eqv x y H Q
def neR (K : PySem.W.Frag) : R2 := fun x y H Q => rNe x y H Q ∨ deepR K (fun d e => !PyData.eqv d e) x y H Q
def hasD (ds : List PyData) (d : PyData) : Bool := ds.any fun z => PyData.eqv z d
def inR (K : PySem.W.Frag) : R2 := fun x y H Q => (∃ (c : Nat) (z : Str), x = .str ⟨#[c]⟩ ∧ y = .str z ∧ Q (.bl (decide (c ∈ z.cps.toList))) H) ∨ rIn K false x y H Q ∨ partsR K hasD x y H Q
def notInR (K : PySem.W.Frag) : R2 := fun x y H Q => (∃ (c : Nat) (z : Str), x = .str ⟨#[c]⟩ ∧ y = .str z ∧ Q (.bl (!decide (c ∈ z.cps.toList))) H) ∨ rIn K true x y H Q ∨ partsR K (fun ds d => !hasD ds d) x y H Q
def lenR (K : PySem.W.Frag) : List V → Hp → VK → Prop := fun xs H Q => (∃ x n, xs = [x] ∧ LenV K x H n ∧ Q (.int n) H) ∨ ∃ a kvs, xs = [V.ref a] ∧ H a = some (.dK kvs) ∧ Q (.int kvs.length) H
def listR (K : PySem.W.Frag) : List V → Hp → VK → Prop := fun xs H Q => (∃ p ys, xs = [.ref p] ∧ (SqL K H p ys ∨ SqT K H p ys) ∧ ∀ l, H l = none → Q (.ref l) (upd H l (.lst ys))) ∨
  ∃ p kvs, xs = [.ref p] ∧ H p = some (.dK kvs) ∧ ∀ q, H q = none → Q (.ref q) (upd H q (.lst (kvs.map fun kv => kV kv.1)))
/-- repr of data: the text that is shown -/
def reprR (K : PySem.W.Frag) : List V → Hp → VK → Prop := fun xs H Q => ∃ x d, xs = [x] ∧ Dp K H x d ∧ d.showable = true ∧ d.depth ≤ 60 ∧ d.shown.length ≤ sizeLine ∧ Q (.str d.shown) H
mutual
theorem Dp.noDict {K : PySem.W.Frag} {H : Hp} : ∀ (d : PyData) (v : V), Dp K H v d → d.hasDict = false
  | .none, _, _ => rfl
  | .bool _, _, _ => rfl
  | .int _, _, _ => rfl
  | .str _, _, _ => rfl
  | .list ds, _, h => by
    cases h with
    | lst _ a => exact Dp.noDictAll ds _ a
  | .tuple ds, _, h => by
    cases h with
    | tup _ a => exact Dp.noDictAll ds _ a
  | .dict _, _, h => nomatch h
theorem Dp.noDictAll {K : PySem.W.Frag} {H : Hp} : ∀ (ds : List PyData) (vs : List V), DpAll K H vs ds → PyData.hasDictAll ds = false
  | [], _, _ => rfl
  | d :: ds, _, h => by
    cases h with
    | cons a b => simp only [PyData.hasDictAll, Dp.noDict d _ a, Dp.noDictAll ds _ b, Bool.or_self]
end
mutual
theorem Dp.plain {K : PySem.W.Frag} {H : Hp} : ∀ (d : PyData) (v : V), Dp K H v d → d.plain = true
  | .none, _, _ => rfl
  | .bool _, _, _ => rfl
  | .int _, _, _ => rfl
  | .str _, _, _ => rfl
  | .list ds, _, h => by
    cases h with
    | lst _ a => exact Dp.plainAll ds _ a
  | .tuple ds, _, h => by
    cases h with
    | tup _ a => exact Dp.plainAll ds _ a
  | .dict _, _, h => nomatch h
theorem Dp.plainAll {K : PySem.W.Frag} {H : Hp} : ∀ (ds : List PyData) (vs : List V), DpAll K H vs ds → PyData.plainAll ds = true
  | [], _, _ => rfl
  | d :: ds, _, h => by
    cases h with
    | cons a b => simp only [PyData.plainAll, Dp.plain d _ a, Dp.plainAll ds _ b, Bool.and_self]
end
theorem SqT.le {K : PySem.W.Frag} {H G : Hp} {a : Addr} {xs : List V} (s : Same H G) (h : SqT K H a xs) : SqT K G a xs := h.imp (fun r => r.imp (s a _) fun ⟨o, e⟩ => ⟨o, s a _ e⟩) id
theorem SqL.le {K : PySem.W.Frag} {H G : Hp} {a : Addr} {xs : List V} (s : Same H G) (h : SqL K H a xs) : SqL K G a xs := h.imp (fun r => r.imp (s a _) fun ⟨o, e⟩ => ⟨o, s a _ e⟩) id
mutual
/-- data stay where what they stand on stays -/
theorem Dp.le {K : PySem.W.Frag} {H G : Hp} (s : Same H G) : ∀ {v : V} {d : PyData}, Dp K H v d → Dp K G v d
  | _, _, .non => .non
  | _, _, .bl b => .bl b
  | _, _, .int i => .int i
  | _, _, .str x => .str x
  | _, _, .lst h a => .lst (SqL.le s h) (DpAll.le s a)
  | _, _, .tup h a => .tup (SqT.le s h) (DpAll.le s a)
theorem DpAll.le {K : PySem.W.Frag} {H G : Hp} (s : Same H G) : ∀ {vs : List V} {ds : List PyData}, DpAll K H vs ds → DpAll K G vs ds
  | _, _, .nil => .nil
  | _, _, .cons a b => .cons (Dp.le s a) (DpAll.le s b)
end
section
variable {X : Cx}
theorem addOp : OpR X (binaryOp .Add) (addR X.K) := op_add.or (op_add_str.or (op_cat.or op_catA))
theorem mulOp : OpR X (binaryOp .Mult) mulR := op_mul.or op_rep
theorem deepEq (hu : X.A.units + 65 < cLine) : OpR X (compareOp .Eq) (deepR X.K PyData.eqv) := by
  intro pins s σ H x y v u Q I rx ry h
  obtain ⟨d, e, hd, he, hm, q⟩ := h
  obtain ⟨as, r1⟩ := Dp.reads I d x v hd rx
  obtain ⟨bs, r2⟩ := Dp.reads I e y u he ry
  exact SeqAt.eq_plain r1 r2 (Dp.plain d x hd) (Dp.plain e y he) (by omega) ⟨.bl _, H, I, rfl, q⟩
theorem deepNe (hu : X.A.units + 65 < cLine) : OpR X (compareOp .NotEq) (deepR X.K fun d e => !PyData.eqv d e) := by
  intro pins s σ H x y v u Q I rx ry h
  obtain ⟨d, e, hd, he, hm, q⟩ := h
  obtain ⟨as, r1⟩ := Dp.reads I d x v hd rx
  obtain ⟨bs, r2⟩ := Dp.reads I e y u he ry
  exact SeqAt.ne_plain r1 r2 (Dp.plain d x hd) (Dp.plain e y he) (by omega) ⟨.bl _, H, I, rfl, q⟩
theorem plain_l {ds : List PyData} (h : PyData.plain (.list ds) = true) : PyData.plainAll ds = true := h
theorem plain_t {ds : List PyData} (h : PyData.plain (.tuple ds) = true) : PyData.plainAll ds = true := h
theorem deepIn (hu : X.A.units + 65 < cLine) : OpR X (compareOp .In) (partsR X.K hasD) := by
  intro pins s σ H x y v u Q I rx ry h
  obtain ⟨d, ds, hd, he | he, hm, q⟩ := h
  · obtain ⟨as, r1⟩ := Dp.reads I d x v hd rx
    obtain ⟨bs, r2⟩ := Dp.reads I (.list ds) y u he ry
    exact SeqAt.in_list_data r2 r1 (plain_l (Dp.plain _ y he)) (Dp.plain d x hd) (by omega) ⟨.bl _, H, I, rfl, q⟩
  · obtain ⟨as, r1⟩ := Dp.reads I d x v hd rx
    obtain ⟨bs, r2⟩ := Dp.reads I (.tuple ds) y u he ry
    exact SeqAt.in_tuple_data r2 r1 (plain_t (Dp.plain _ y he)) (Dp.plain d x hd) (by omega) ⟨.bl _, H, I, rfl, q⟩
theorem deepNotIn (hu : X.A.units + 65 < cLine) : OpR X (compareOp .NotIn) (partsR X.K fun ds d => !hasD ds d) := by
  intro pins s σ H x y v u Q I rx ry h
  obtain ⟨d, ds, hd, he | he, hm, q⟩ := h
  · obtain ⟨as, r1⟩ := Dp.reads I d x v hd rx
    obtain ⟨bs, r2⟩ := Dp.reads I (.list ds) y u he ry
    exact SeqAt.notIn_list_data r2 r1 (plain_l (Dp.plain _ y he)) (Dp.plain d x hd) (by omega) ⟨.bl _, H, I, rfl, q⟩
  · obtain ⟨as, r1⟩ := Dp.reads I d x v hd rx
    obtain ⟨bs, r2⟩ := Dp.reads I (.tuple ds) y u he ry
    exact SeqAt.notIn_tuple_data r2 r1 (plain_t (Dp.plain _ y he)) (Dp.plain d x hd) (by omega) ⟨.bl _, H, I, rfl, q⟩
theorem eqOp (hu : X.A.units + 65 < cLine) : OpR X (compareOp .Eq) (eqR X.K) := op_eq.or (deepEq hu)
theorem neOp (hu : X.A.units + 65 < cLine) : OpR X (compareOp .NotEq) (neR X.K) := op_ne.or (deepNe hu)
theorem inOp (hu : X.A.units + 65 < cLine) : OpR X (compareOp .In) (inR X.K) := op_in_sign.or (op_in_seq.or (deepIn hu))
theorem notInOp (hu : X.A.units + 65 < cLine) : OpR X (compareOp .NotIn) (notInR X.K) := op_notIn_sign.or (op_notIn_seq.or (deepNotIn hu))
theorem lenCall : CallR X (.builtin "len") (lenR X.K) := call_len.or call_lenD
theorem listCall (hc : X.calm = true) : CallR X (.type "list") (listR X.K) := call_list_of.or (call_list_dK hc)
theorem reprCall (hu : X.A.units + 65 < cLine) (hG : X.A.guards = some []) : CallR X (.builtin "repr") (reprR X.K) := by
  intro pins s σ H xs us Q I r h
  obtain ⟨x, d, rfl, hd, hs, hdep, hz, q⟩ := h
  obtain ⟨u, rfl, rx⟩ := vals1 r
  have fin : ∀ (t : Tok) (tk : Nat), EP X pins σ Q (.str d.shown t) { s with toks := tk } := fun t tk => ⟨.str d.shown, H, I.tok _, ⟨t, rfl⟩, q⟩
  obtain ⟨as, rd⟩ := Dp.reads I d x u hd rx
  have nd := Dp.noDict d x hd
  cases hd with
  | non => (obtain rfl : u = Value.none := rx; exact PySem.P.repr_of_none (fin _ _))
  | bl b => (obtain rfl : u = Value.bool b := rx; exact PySem.P.repr_of_bool (fin _ _))
  | int i => (obtain ⟨t, rfl⟩ := rx; exact PySem.P.repr_of_int (by simpa [PyData.showable] using hs) (fin _ _))
  | str y => (obtain ⟨t, rfl⟩ := rx; exact PySem.P.repr_of_str (fin _ _) hz)
  | lst _ _ =>
    obtain rfl : u = Value.ref _ := rx
    exact repr_of_reads' rd hs (fun z => absurd (nd.symm.trans z) Bool.false_ne_true) hG (by omega) (fun _ _ e => e) (fun h' t tk k => ⟨.str _, H, I.kept k, ⟨t, rfl⟩, q⟩) hz
  | tup _ _ =>
    obtain rfl : u = Value.ref _ := rx
    exact repr_of_reads' rd hs (fun z => absurd (nd.symm.trans z) Bool.false_ne_true) hG (by omega) (fun _ _ e => e) (fun h' t tk k => ⟨.str _, H, I.kept k, ⟨t, rfl⟩, q⟩) hz
end
section
variable {σ : L2.St} {H : Hp} {Q : VK} {K : PySem.W.Frag}
theorem rvAddI {i j : Int} (q : Q (.int (i + j)) H) : addR K (.int i) (.int j) H Q := .inl ⟨i, j, rfl, rfl, q⟩
theorem rvAddS {i j : Str} (l : i.length + j.length ≤ sizeLine) (q : Q (.str (i ++ j)) H) : addR K (.str i) (.str j) H Q := .inr (.inl ⟨i, j, rfl, rfl, l, q⟩)
theorem rvAddL {a b : Addr} {xs zs : List V} (ha : H a = some (.lst xs)) (hb : H b = some (.lst zs)) (l : xs.length + zs.length ≤ sizeLine) (q : ∀ p, H p = none → Q (.ref p) (upd H p (.lst (xs ++ zs)))) : addR K (.ref a) (.ref b) H Q :=
  .inr (.inr (.inl ⟨a, b, xs, zs, rfl, rfl, ha, hb, l, q⟩))
theorem rvAddT {a b : Addr} {xs ys : List V} (ha : SqT K H a xs) (hb : SqT K H b ys) (l : xs.length + ys.length ≤ sizeLine) (q : ∀ p G, Kp [] H G → SqT K G p (xs ++ ys) → Q (.ref p) G) : addR K (.ref a) (.ref b) H Q :=
  .inr (.inr (.inr ⟨a, b, xs, ys, rfl, rfl, ha, hb, l, fun e => q b H Kp.rfl' (by rw [e]; exact hb), fun _ e => q a H Kp.rfl' (by rw [e, List.append_nil]; exact ha), fun _ _ p hp => q p _ (Kp.rfl'.new hp) (SqT.of upd_same)⟩))
theorem rvMulI {i j : Int} (c : CMul i j) (q : Q (.int (i * j)) H) : mulR (.int i) (.int j) H Q := .inl ⟨i, j, rfl, rfl, c, q⟩
theorem rvEqS {x y : V} (c : scal x y = true) (q : Q (.bl (decide (x = y))) H) : eqR K x y H Q := .inl ⟨c, q⟩
theorem rvNeS {x y : V} (c : scal x y = true) (q : Q (.bl (!decide (x = y))) H) : neR K x y H Q := .inl ⟨c, q⟩
theorem rvEqD {x y : V} {d e : PyData} (hd : Dp K H x d) (he : Dp K H y e) (hm : min d.depth e.depth ≤ 60) (q : Q (.bl (PyData.eqv d e)) H) : eqR K x y H Q := .inr ⟨d, e, hd, he, hm, q⟩
theorem rvNeD {x y : V} {d e : PyData} (hd : Dp K H x d) (he : Dp K H y e) (hm : min d.depth e.depth ≤ 60) (q : Q (.bl (!PyData.eqv d e)) H) : neR K x y H Q := .inr ⟨d, e, hd, he, hm, q⟩
theorem rvInL {x y : V} {d : PyData} {ds : List PyData} (hd : Dp K H x d) (he : Dp K H y (.list ds)) (hm : d.depth ≤ 60) (q : Q (.bl (hasD ds d)) H) : inR K x y H Q := .inr (.inr ⟨d, ds, hd, .inl he, hm, q⟩)
theorem rvNotInL {x y : V} {d : PyData} {ds : List PyData} (hd : Dp K H x d) (he : Dp K H y (.list ds)) (hm : d.depth ≤ 60) (q : Q (.bl (!hasD ds d)) H) : notInR K x y H Q := .inr (.inr ⟨d, ds, hd, .inl he, hm, q⟩)
theorem eqv_nil {ds : List PyData} : PyData.eqv (.list ds) (.list []) = decide (ds = []) := by
  cases ds <;> simp [PyData.eqv, PyData.eqvAll]
theorem min_nil (n : Nat) : min n (PyData.depth (.list [])) ≤ 60 := by
  have : PyData.depth (.list []) ≤ 60 := by decide
  omega
/-- a list of data beside the empty one -/
theorem rvNeNil {x : V} {b : Addr} {ds : List PyData} (hd : Dp K H x (.list ds)) (hb : SqL K H b []) (q : Q (.bl (!decide (ds = []))) H) : neR K x (.ref b) H Q := rvNeD hd (.lst hb .nil) (min_nil _) (by rw [eqv_nil]; exact q)
theorem rvEqNil {x : V} {b : Addr} {ds : List PyData} (hd : Dp K H x (.list ds)) (hb : SqL K H b []) (q : Q (.bl (decide (ds = []))) H) : eqR K x (.ref b) H Q := rvEqD hd (.lst hb .nil) (min_nil _) (by rw [eqv_nil]; exact q)
theorem rvLenL {a : Addr} {xs : List V} (h : SqL K H a xs) (q : Q (.int xs.length) H) : lenR K [.ref a] H Q := .inl ⟨_, _, rfl, .inl ⟨xs, h, rfl⟩, q⟩
theorem rvLenT {a : Addr} {xs : List V} (h : SqT K H a xs) (q : Q (.int xs.length) H) : lenR K [.ref a] H Q := .inl ⟨_, _, rfl, .inr ⟨xs, h, rfl⟩, q⟩
theorem rvLenS {x : Str} (h : x.length ≤ sizeLine) (q : Q (.int x.length) H) : lenR K [.str x] H Q := .inl ⟨_, _, rfl, ⟨h, rfl⟩, q⟩
theorem rvLenD {a : Addr} {kvs : List (Key × V)} (h : H a = some (.dK kvs)) (q : Q (.int kvs.length) H) : lenR K [.ref a] H Q := .inr ⟨_, _, rfl, h, q⟩
theorem rvIx1 {p : Addr} {xs : List V} {i : Int} {v : V} (h : SqL K H p xs) (e : atI xs i = some v) (q : Q v H) : rIx K (.ref p) (.int i) H Q := .inl ⟨p, xs, i, v, rfl, rfl, h, e, q⟩
theorem rvIx2 {p : Addr} {xs : List V} {i : Int} {v : V} (h : SqT K H p xs) (e : atI xs i = some v) (q : Q v H) : rIx K (.ref p) (.int i) H Q := .inr (.inl ⟨p, xs, i, v, rfl, rfl, h, e, q⟩)
theorem rvIx3 {z : Str} {i : Int} {c : Nat} (hz : z.length ≤ sizeLine) (e : atI z.cps.toList i = some c) (q : Q (.str ⟨#[c]⟩) H) : rIx K (.str z) (.int i) H Q := .inr (.inr ⟨z, i, c, rfl, rfl, hz, e, q⟩)
theorem rvRepr {x : V} {d : PyData} (hd : Dp K H x d) (hs : d.showable = true) (h1 : d.depth ≤ 60) (h2 : d.shown.length ≤ sizeLine) (q : Q (.str d.shown) H) : reprR K [x] H Q := ⟨x, d, rfl, hd, hs, h1, h2, q⟩
end

section
variable {σ : L2.St} {H : Hp} {Q : VK} {K : PySem.W.Frag}
theorem ne_new {a b : Addr} {o : HO} (h' : H b = none) (h : H a = some o) : a ≠ b := ne_of_none h h'
theorem rdPar {D : Ends} {i j : Nat} {ta : TA} (q : ta σ H fun vs H1 => ∃ v w, vs = [v, w] ∧ D.nx ((σ.set i (some v)).set j (some w)) H1) : tPar i j ta D σ H := q
theorem rdSl {r : V → Option Int → Option Int → Hp → VK → Prop} {te : TE} {tl th : TO} (q : te σ H fun x H1 => tl σ H1 fun l H2 => th σ H2 fun u H3 => r x l u H3 Q) : tSl r te tl th σ H Q := q
theorem rdPart {te : TE} {R : Option Int → Hp → Prop} (q : te σ H fun x H1 => ∃ i, x = .int i ∧ R (some i) H1) : tPart te σ H R := q
theorem rdNoPart {R : Option Int → Hp → Prop} (q : R none H) : tNoPart σ H R := q
theorem rdBM {T : String} {r : V → List V → Hp → VK → Prop} {to : TE} {t : TA} (q : to σ H fun x H1 => tyV K T x H1 ∧ t σ H1 fun xs H2 => r x xs H2 Q) : tBM K T r to t σ H Q := q
theorem rvMax {i j : Int} {Q : VK} (q : Q (.int (if j > i then j else i)) H) : ∃ i' j', [V.int i, V.int j] = [V.int i', V.int j'] ∧ Q (.int (if j' > i' then j' else i')) H := ⟨i, j, rfl, q⟩
theorem rvAbs {i : Int} {Q : VK} (q : Q (.int (if i < 0 then -i else i)) H) : ∃ i', [V.int i] = [V.int i'] ∧ Q (.int (if i' < 0 then -i' else i')) H := ⟨i, rfl, q⟩
end
theorem cxK {CX : CXT} {P : Program} {w : World} {K : PySem.W.Frag} {mg : Str → Option Value} {base : Heap} {N : List Str} {q : Str} {sc : Scope} {f : Addr} {cd : Value} {A : Around} {up : List Env} {s : Shared} {H : Hp} {E : XK} : (cxOf CX P w K mg base N q sc f cd A up s H E).K = K := rfl
theorem cxKn {X : Cx} : X.nox.K = X.K := rfl
/-- a def of the top out of which no exception comes -/
theorem TopDef.cal0 {P : Program} {w : World} {K : PySem.W.Frag} {mg : Str → Option Value} {base : Heap} {k : Nat} {ps : List Str} {sp : Sp} {x : Str} {st : Stmt} {N : List Str} (T : TopDef K mg x st ps) (S : FnScope N ps (defScope st)) (len : ∀ vs H Q E, sp vs H Q E → vs.length = ps.length)
    (hb : ∀ (f : Addr) (cd : Value) (A : Around) (up : List Env) (s : Shared) (H : Hp) (vs : List V) (Q : VK) (E : XK), Room k (A.deeper (envOfC x (defScope st) s.heap.objs.size f cd)) → (A.deeper (envOfC x (defScope st) s.heap.objs.size f cd)).guards = some [] →
      sp vs H Q E → ∃ t, PSs (cxOf (L2.CX P w) P w K mg base N x (defScope st) f cd A up s H E).nox (defBody st) t ∧ t { nx := fun _ G => Q .non G, rt := Q } (L2.start N vs) H) :
    Cal P w K mg base (k + 1) x ps sp := T.cal S len fun f cd A up s H vs Q E hr hG h => by
  obtain ⟨t, a, b⟩ := hb f cd A up s H vs Q E hr hG h
  exact ⟨t, a.nox, b⟩
theorem cxKb {X : Cx} {s : Shared} {H : Hp} {sc : Scope} {env : Env} {fp : List Addr} : (X.blk s H sc env fp).K = X.K := rfl
theorem iteD {c A B : Prop} [Decidable c] (h1 : c → A) (h2 : ¬ c → B) : if decide c = true then A else B := ite2 (fun h => h1 (of_decide_eq_true h)) fun h => h2 fun z => h (decide_eq_true z)
theorem iteNotD {c A B : Prop} [Decidable c] (h1 : ¬ c → A) (h2 : c → B) : if (!decide c) = true then A else B := ite2 (fun h => h1 fun z => by simp [z] at h) fun h => h2 (Decidable.byContradiction fun z => h (by simp [z]))

/-! ## the rules with the written part named (so that they serve within comprehensions, too) -/
section
variable {X : Cx} {K : PySem.W.Frag} (hK : X.K = K)
include hK
theorem ixS : IxR X (rIx K) := by subst hK; exact ix_seq
theorem ixL : IxR X (rIxL K) := by subst hK; exact ix_list
theorem ixT : IxR X (rIxT K) := by subst hK; exact ix_tup
theorem addO : OpR X (binaryOp .Add) (addR K) := by subst hK; exact addOp
theorem eqO (hu : X.A.units + 65 < cLine) : OpR X (compareOp .Eq) (eqR K) := by subst hK; exact eqOp hu
theorem neO (hu : X.A.units + 65 < cLine) : OpR X (compareOp .NotEq) (neR K) := by subst hK; exact neOp hu
theorem inO (hu : X.A.units + 65 < cLine) : OpR X (compareOp .In) (inR K) := by subst hK; exact inOp hu
theorem notInO (hu : X.A.units + 65 < cLine) : OpR X (compareOp .NotIn) (notInR K) := by subst hK; exact notInOp hu
theorem lenC : CallR X (.builtin "len") (lenR K) := by subst hK; exact lenCall
theorem listC (hc : X.calm = true) : CallR X (.type "list") (listR K) := by subst hK; exact listCall hc
theorem reprC (hu : X.A.units + 65 < cLine) (hG : X.A.guards = some []) : CallR X (.builtin "repr") (reprR K) := by subst hK; exact reprCall hu hG
theorem isiC : CallR X (.builtin "isinstance") (rIsi K) := by subst hK; exact call_isi
theorem allC (hc : X.calm = true) : CallR X (.builtin "all") (rAll K) := by subst hK; exact cr_all hc
theorem anyC (hc : X.calm = true) : CallR X (.builtin "any") (rAny K) := by subst hK; exact cr_any hc
theorem sumC (hc : X.calm = true) : CallR X (.builtin "sum") (rSum K) := by subst hK; exact cr_sum hc
theorem tupleC : CallR X (.type "tuple") (fun xs H Q => ∃ p ys, xs = [.ref p] ∧ ((SqL K H p ys ∧ ∀ l, H l = none → Q (.ref l) (upd H l (.tup ys))) ∨ (SqT K H p ys ∧ Q (.ref p) H))) := by subst hK; exact call_tuple_of
theorem slL : SlR X (rSlL K) := by subst hK; exact sl_list
theorem slT : SlR X (rSlA K) := by subst hK; exact sl_tupA
theorem piL {tg l : Expr} {tl : TE} (h : PE X l tl) : PI X tg l (iList K tl) := by subst hK; exact pi_list h
theorem piT {tg l : Expr} {tl : TE} (h : PE X l tl) : PI X tg l (iTup K tl) := by subst hK; exact pi_tup h
theorem gTupK {es : List Expr} {k n : Nat} {t : TGs} {pos : Pos} (hc : X.calm = true) (h : PGs X es t) (hn : (assignEach es X.env).length = n := by rfl) (hs : (assignEach es X.env).findIdx? (·.1) = none := by rfl) :
    PG X (.Tuple es k pos) (gTup K n t) := by subst hK; exact pg_tup hc h hn hs
theorem enumK {e : Expr} {ta : TA} {p pos tp : Pos} {el : List Expr} {kk : Nat} (hg : Gl X "enumerate") (hm : X.mg "enumerate" = none) (ha : PA X [e] ta) (hs : starEach [e] X.env = [(false, eval e X.env)] := by rfl) :
    PI X (.Tuple el kk tp) (.Call (.Name "enumerate" p) [e] [] pos) (iEnum K ta) := by subst hK; exact pi_enum hg hm ha hs
theorem zipK {e d : Expr} {ta : TA} {p pos tp : Pos} {el : List Expr} {kk : Nat} (hg : Gl X "zip") (hm : X.mg "zip" = none) (ha : PA X [e, d] ta) (hs : starEach [e, d] X.env = (false, eval e X.env) :: starEach [d] X.env := by rfl)
    (hp : (backTo pos (starEach [d] X.env)).any (·.1) = false := by rfl) : PI X (.Tuple el kk tp) (.Call (.Name "zip" p) [e, d] [] pos) (RZ.iZipA K ta) := by subst hK; exact RZ.pi_zipA hg hm ha hs hp
theorem fldK {e : Expr} {ta : TE} {f : Str} {pos : Pos} (he : PE X e ta) (hb : attributeBase e f X.env (eval e X.env) = eval e X.env) : PE X (.Attribute e f pos) (tFld K ta f) := by subst hK; exact pe_fld he hb
theorem bmK {T id : String} {name : Str} {r : V → List V → Hp → VK → Prop} {o e : Expr} {es : List Expr} {to : TE} {t : TA} {ap cp : Pos} (pa : PlainAttrs T) (sl : Slot T name id) (ty : typeOf (.builtin id) = pure (.type "method_descriptor")) (hm : MtR X id r)
    (ho : PE X o to) (ha : PA X (e :: es) t) (hb : attributeBase o name X.env (eval o X.env) = eval o X.env := by rfl)
    (hf : ((backTo cp (starEach (e :: es) X.env)).all (fun x => !x.1) && (backToKw cp (keywordEach [] X.env)).all (fun x => x.1.isSome) && decide ((e :: es).length + ([] : List Keyword).length + (if ([] : List Keyword).isEmpty then 0 else 1) < 30)) = true := by rfl)
    (hl : (ap.endLine == cp.line) = true := by rfl) (hs : starEach (e :: es) X.env = (false, eval e X.env) :: starEach es X.env := by rfl) (hp : (backTo cp (starEach es X.env)).any (·.1) = false := by rfl) :
    PE X (.Call (.Attribute o name ap) (e :: es) [] cp) (tBM K T r to t) := by subst hK; exact pe_bm pa sl ty hm ho ha hb hf hl hs hp
theorem bm0K {T id : String} {name : Str} {r : V → List V → Hp → VK → Prop} {o : Expr} {to : TE} {ap cp : Pos} (pa : PlainAttrs T) (sl : Slot T name id) (ty : typeOf (.builtin id) = pure (.type "method_descriptor")) (hm : MtR X id r)
    (ho : PE X o to) (hb : attributeBase o name X.env (eval o X.env) = eval o X.env := by rfl) (hl : (ap.endLine == cp.line) = true := by rfl) :
    PE X (.Call (.Attribute o name ap) [] [] cp) (tBM0 K T r to) := by subst hK; exact pe_bm0 pa sl ty hm ho hb hl
end

/-! ## loops: the iterated thing first, then the turns -/
def iK (J : It) : TI := fun _ H R => R J H
section
variable {σ : L2.St} {H : Hp} {Q : VK} {K : PySem.W.Frag} {g : TG} {tb : TS} {D : Ends} {ta : TA} {te tel : TE} {tt : TT} {vs : List Nat}
theorem rdFor1 (q : ta σ H fun xs H1 => ∃ j : Int, xs = [.int j] ∧ -(2 ^ 62) ≤ j ∧ j < 2 ^ 62 ∧ tFor (iK (Itr 0 j.toNat)) g tb D σ H1) : tFor (iRng1 ta) g tb D σ H := q
theorem rdFor2 (q : ta σ H fun xs H1 => ∃ i j : Int, xs = [.int i, .int j] ∧ (-(2 ^ 62) ≤ i ∧ i < 2 ^ 62 ∧ -(2 ^ 62) ≤ j ∧ j < 2 ^ 62) ∧ tFor (iK (Itr i (j - i).toNat)) g tb D σ H1) : tFor (iRng2 ta) g tb D σ H := q
theorem rdForL (q : te σ H fun x H1 => ∃ a, x = .ref a ∧ (∃ xs, SqL K H1 a xs) ∧ tFor (iK (Itl K a)) g tb D σ H1) : tFor (iList K te) g tb D σ H := q
theorem rdForT (q : te σ H fun x H1 => ∃ a, x = .ref a ∧ (∃ xs, SqT K H1 a xs) ∧ tFor (iK (Itt K a)) g tb D σ H1) : tFor (iTup K te) g tb D σ H := q
theorem rdForE (q : ta σ H fun ys H1 => ∃ a xs, ys = [.ref a] ∧ SqL K H1 a xs ∧ tFor (iK (Ite K a)) g tb D σ H1) : tFor (iEnum K ta) g tb D σ H := q
theorem rdForS (q : te σ H fun v H1 => ∃ x, v = .str x ∧ tFor (iK (Its x)) g tb D σ H1) : tFor (iStr te) g tb D σ H := q
theorem rdLc1 (q : ta σ H fun xs H1 => ∃ j : Int, xs = [.int j] ∧ -(2 ^ 62) ≤ j ∧ j < 2 ^ 62 ∧ tLc (iK (Itr 0 j.toNat)) g tt tel vs σ H1 Q) : tLc (iRng1 ta) g tt tel vs σ H Q := q
theorem rdLcL (q : te σ H fun x H1 => ∃ a, x = .ref a ∧ (∃ xs, SqL K H1 a xs) ∧ tLc (iK (Itl K a)) g tt tel vs σ H1 Q) : tLc (iList K te) g tt tel vs σ H Q := q
theorem rdLcT (q : te σ H fun x H1 => ∃ a, x = .ref a ∧ (∃ xs, SqT K H1 a xs) ∧ tLc (iK (Itt K a)) g tt tel vs σ H1 Q) : tLc (iTup K te) g tt tel vs σ H Q := q
theorem rdLcS (q : te σ H fun v H1 => ∃ x, v = .str x ∧ tLc (iK (Its x)) g tt tel vs σ H1 Q) : tLc (iStr te) g tt tel vs σ H Q := q
theorem rdLcE (q : ta σ H fun ys H1 => ∃ a xs, ys = [.ref a] ∧ SqL K H1 a xs ∧ tLc (iK (Ite K a)) g tt tel vs σ H1 Q) : tLc (iEnum K ta) g tt tel vs σ H Q := q
theorem rdYes {R : Bool → Hp → Prop} (q : R true H) : tYes σ H R := q
/-- for over a range, by what holds behind i turns -/
theorem forRange {lo : Int} {n : Nat} (Pv : Nat → L2.St → Hp → Prop) (h0 : Pv 0 σ H) (hs : ∀ i σ H, i < n → Pv i σ H → g (.int (lo + i)) σ H fun σ2 H2 => tb { D with nx := Pv (i + 1), ct := Pv (i + 1), bk := D.nx } σ2 H2)
    (hd : ∀ σ H, Pv n σ H → D.nx σ H) : tFor (iK (Itr lo n)) g tb D σ H := for_range Pv h0 hs hd
theorem forList {a : Addr} {xs : List V} (Pv : Nat → L2.St → Hp → Prop) (h0 : Pv 0 σ H) (hl : ∀ i σ H, i ≤ xs.length → Pv i σ H → SqL K H a xs)
    (hs : ∀ i x σ H, xs[i]? = some x → Pv i σ H → g x σ H fun σ2 H2 => tb { D with nx := Pv (i + 1), ct := Pv (i + 1), bk := D.nx } σ2 H2) (hd : ∀ σ H, Pv xs.length σ H → D.nx σ H) : tFor (iK (Itl K a)) g tb D σ H := for_list Pv h0 hl hs hd
theorem forTup {a : Addr} {xs : List V} (Pv : Nat → L2.St → Hp → Prop) (h0 : Pv 0 σ H) (hl : ∀ i σ H, i ≤ xs.length → Pv i σ H → SqT K H a xs)
    (hs : ∀ i x σ H, xs[i]? = some x → Pv i σ H → g x σ H fun σ2 H2 => tb { D with nx := Pv (i + 1), ct := Pv (i + 1), bk := D.nx } σ2 H2) (hd : ∀ σ H, Pv xs.length σ H → D.nx σ H) : tFor (iK (Itt K a)) g tb D σ H := for_tup Pv h0 hl hs hd
/-- a comprehension's turn: the test, the item, the list so far -/
def LcTurn (g : TG) (tt : TT) (te : TE) (vs : List Nat) (σ : L2.St) (D : Addr) (x : V) (H : Hp) (N : Hp → Prop) : Prop := g x (wipe σ vs) H fun σ2 H2 => wipe σ2 vs = wipe σ vs ∧ tt σ2 H2 fun b H3 =>
  if b = true then te σ2 H3 fun y H4 => ∃ acc, H4 D = some (.lst acc) ∧ acc.length < sizeLine ∧ N (upd H4 D (.lst (acc ++ [y]))) else N H3
theorem lcRange {lo : Int} {n : Nat} (Pv : Addr → Nat → Hp → Prop) (h0 : ∀ D, H D = none → Pv D 0 (upd H D (.lst []))) (hs : ∀ D i G, H D = none → i < n → Pv D i G → LcTurn g tt tel vs σ D (.int (lo + i)) G (Pv D (i + 1)))
    (hd : ∀ D G, H D = none → Pv D n G → Q (.ref D) G) : tLc (iK (Itr lo n)) g tt tel vs σ H Q := fun D hD => lc_range (Pv D) (h0 D hD) (fun i G hi p => hs D i G hD hi p) (fun G p => hd D G hD p)
theorem lcList {a : Addr} {xs : List V} (Pv : Addr → Nat → Hp → Prop) (h0 : ∀ D, H D = none → Pv D 0 (upd H D (.lst []))) (hl : ∀ D i G, H D = none → Pv D i G → SqL K G a xs) (hs : ∀ D i x G, H D = none → xs[i]? = some x → Pv D i G → LcTurn g tt tel vs σ D x G (Pv D (i + 1)))
    (hd : ∀ D G, H D = none → Pv D xs.length G → Q (.ref D) G) : tLc (iK (Itl K a)) g tt tel vs σ H Q := fun D hD => lc_list (Pv D) (h0 D hD) (fun i G _ p => hl D i G hD p) (fun i x G e p => hs D i x G hD e p) (fun G p => hd D G hD p)
theorem lcTup {a : Addr} {xs : List V} (Pv : Addr → Nat → Hp → Prop) (h0 : ∀ D, H D = none → Pv D 0 (upd H D (.lst []))) (hl : ∀ D i G, H D = none → Pv D i G → SqT K G a xs) (hs : ∀ D i x G, H D = none → xs[i]? = some x → Pv D i G → LcTurn g tt tel vs σ D x G (Pv D (i + 1)))
    (hd : ∀ D G, H D = none → Pv D xs.length G → Q (.ref D) G) : tLc (iK (Itt K a)) g tt tel vs σ H Q := fun D hD => lc_tup (Pv D) (h0 D hD) (fun i G _ p => hl D i G hD p) (fun i x G e p => hs D i x G hD e p) (fun G p => hd D G hD p)
end
/-- the signs of a text -/
def cs (z : Str) : List Nat := z.cps.toList
theorem cs_size (z : Str) : z.cps.size = (cs z).length := by simp [cs]
section
variable {σ : L2.St} {H : Hp} {Q : VK} {K : PySem.W.Frag} {g : TG} {tt : TT} {tel : TE} {vs : List Nat}
theorem lcStr {z : Str} (Pv : Addr → Nat → Hp → Prop) (h0 : ∀ D, H D = none → Pv D 0 (upd H D (.lst []))) (hs : ∀ D i c G, H D = none → (cs z)[i]? = some c → Pv D i G → LcTurn g tt tel vs σ D (.str ⟨#[c]⟩) G (Pv D (i + 1)))
    (hd : ∀ D G, H D = none → Pv D (cs z).length G → Q (.ref D) G) : tLc (iK (Its z)) g tt tel vs σ H Q := by
  intro D hD
  refine ⟨fun i m G => i + m = (cs z).length ∧ Pv D i G, ⟨(cs z).length, Nat.zero_add _, h0 D hD⟩, fun i m G ⟨im, pv⟩ => ?_⟩
  cases m with
  | zero =>
    obtain rfl : i = (cs z).length := im
    exact .inl ⟨Nat.le_of_eq (cs_size z), hd D G hD pv⟩
  | succ m =>
    have hi : i < z.cps.size := by rw [cs_size]; omega
    refine .inr ⟨hi, Pv D (i + 1), fun G' p => ⟨m, Nat.lt_succ_self m, by omega, p⟩, fun x G' yl => ?_⟩
    obtain ⟨rfl, c, e, rfl⟩ := yl
    exact hs D i c _ hD (by rw [← e]; simp [cs]) pv
end
theorem Kp.own {S : List Addr} {H H1 : Hp} {l : Addr} {o : HO} (a : Kp S H H1) (hl : H l = none) : Kp S H (upd H1 l o) := fun c u n e => by
  rw [upd_ne (ne_of_none e hl)]
  exact a c u n e
section
variable {H : Hp} {Q : VK} {K : PySem.W.Frag}
theorem rvSlS {z : Str} {lo hi : Option Int} (h : z.length ≤ sizeLine) (q : Q (.str (cutS z lo hi)) H) : rSlS (.str z) lo hi H Q := ⟨z, rfl, h, q⟩
theorem rvSlL {a : Addr} {xs : List V} {lo hi : Option Int} (h : SqL K H a xs) (q : ∀ p, H p = none → Q (.ref p) (upd H p (.lst (cutV xs lo hi)))) : rSlL K (.ref a) lo hi H Q := ⟨a, xs, rfl, h, q⟩
theorem rvTyL {l : Addr} {xs : List V} (h : H l = some (.lst xs)) : tyV K "list" (.ref l) H := .inl ⟨rfl, xs, SqL.of h⟩
theorem rvAppend {l : Addr} {xs : List V} {y : V} (h : H l = some (.lst xs)) (hz : xs.length < sizeLine) (q : Q .non (upd H l (.lst (xs ++ [y])))) : rAppend (.ref l) [y] H Q := ⟨l, xs, y, rfl, rfl, h, hz, q⟩
theorem rvInSign {c : Nat} {z : Str} (q : Q (.bl (decide (c ∈ cs z))) H) : inR K (.str ⟨#[c]⟩) (.str z) H Q := .inl ⟨c, z, rfl, rfl, q⟩
theorem rvInSeq {p : Addr} {x : V} {xs : List V} (h : SqL K H p xs ∨ SqT K H p xs) (f1 : flatV x = true) (f2 : xs.all flatV = true) (q : Q (.bl (inV x xs)) H) : inR K x (.ref p) H Q := .inr (.inl ⟨p, xs, rfl, h, f1, f2, q⟩)
theorem rvNotInSeq {p : Addr} {x : V} {xs : List V} (h : SqL K H p xs ∨ SqT K H p xs) (f1 : flatV x = true) (f2 : xs.all flatV = true) (q : Q (.bl (!inV x xs)) H) : notInR K x (.ref p) H Q := .inr (.inl ⟨p, xs, rfl, h, f1, f2, q⟩)
theorem inV_strs {z : Str} {ys : List Str} : inV (.str z) (ys.map V.str) = decide (z ∈ ys) := by
  unfold inV
  rw [Bool.eq_iff_iff]
  simp only [List.any_map, List.any_eq_true, Function.comp, decide_eq_true_eq]
  constructor
  · rintro ⟨y, hy, e⟩
    have : y = z := by simpa [eqV] using e
    exact this ▸ hy
  · intro h
    exact ⟨z, h, by simp [eqV]⟩
theorem flat_strs {ys : List Str} : (ys.map V.str).all flatV = true := by
  rw [List.all_map, List.all_eq_true]
  intro _ _
  rfl
end
/-- what a loop keeps, shut against the readings -/
structure Hold (p : Prop) : Prop where
  it : p
section
variable {H : Hp} {Q : VK} {K : PySem.W.Frag}
theorem rvInStrs {p : Addr} {z : Str} {ys : List Str} (h : SqL K H p (ys.map V.str)) (q : Q (.bl (decide (z ∈ ys))) H) : inR K (.str z) (.ref p) H Q := rvInSeq (.inl h) rfl flat_strs (by rw [inV_strs]; exact q)
theorem rvNotInStrs {p : Addr} {z : Str} {ys : List Str} (h : SqL K H p (ys.map V.str)) (q : Q (.bl (!decide (z ∈ ys))) H) : notInR K (.str z) (.ref p) H Q := rvNotInSeq (.inl h) rfl flat_strs (by rw [inV_strs]; exact q)
end
section
variable {σ : L2.St} {H : Hp} {Q : VK} {K : PySem.W.Frag} {g : TG} {tt : TT} {te : TE} {vs : List Nat} {D : Addr} {x : V} {N : Hp → Prop} {i : Nat}
/-- a turn whose target is one name -/
theorem lcTurn1 (hv : (σ.set i none).set i (some x) = σ.set i (some x)) (q : tt (σ.set i (some x)) H fun b H3 =>
    if b = true then te (σ.set i (some x)) H3 fun y H4 => ∃ acc, H4 D = some (.lst acc) ∧ acc.length < sizeLine ∧ N (upd H4 D (.lst (acc ++ [y]))) else N H3) : LcTurn (gName i) tt te [i] σ D x H N := by
  have e : wipe σ [i] = σ.set i none := rfl
  show wipe ((wipe σ [i]).set i (some x)) [i] = wipe σ [i] ∧ tt ((wipe σ [i]).set i (some x)) H _
  rw [e, hv]
  exact ⟨by show (σ.set i (some x)).set i none = _; rw [List.set_set], q⟩
end
theorem take_succ_of {α : Type} {l : List α} {i : Nat} {x : α} (h : l[i]? = some x) : l.take (i + 1) = l.take i ++ [x] := by
  rw [List.take_add_one, h]
  rfl
theorem small (n : Nat) (h : n ≤ 100000) : n ≤ sizeLine := by rw [sizeLine_eq]; omega
theorem small' (n : Nat) (h : n ≤ 100000) : n < sizeLine := by rw [sizeLine_eq]; omega
theorem Kp.same' {H H1 : Hp} (a : Kp [] H H1) : Same H H1 := fun c u e => a c u (by simp) e
/-! ## sorted(.., key=str) of texts -/
def sortS (xs : List Str) : List Str := xs.mergeSort fun a b => decide (cs a ≤ cs b)
def rSortK (K : PySem.W.Frag) : List V → List V → Hp → VK → Prop := fun vs zs H Q => ∃ (a : Addr) (xs : List Str), vs = [.ref a] ∧ zs = [.ty "str"] ∧ SqL K H a (xs.map V.str) ∧ ∀ p, H p = none → Q (.ref p) (upd H p (.lst ((sortS xs).map V.str)))
def IsS (v : Value) (x : Str) : Prop := ∃ t, v = .str x t
theorem eachS : ∀ {xs : List Str} {us : List Value}, Vals (xs.map V.str) us → PySem.W.EachIs IsS us xs
  | [], _, .nil => .nil
  | _ :: _, _, .cons r t => .cons r (eachS t)
theorem valsS : ∀ {xs : List Str} {us : List Value}, PySem.W.EachIs IsS us xs → Vals (xs.map V.str) us
  | _, _, .nil => .nil
  | _, _, .cons r t => .cons r (valsS t)
theorem sortedStrs {X : Cx} {K : PySem.W.Frag} (hK : X.K = K) (hu : X.A.units + 65 < cLine) : CallRK X (.builtin "sorted") [Str.ofString "key"] (rSortK K) := by
  subst hK
  intro pins s σ H vs zs us ws Q I r rz h
  obtain ⟨a, xs, rfl, rfl, hs, q⟩ := h
  obtain rfl := Vals.ref1 r
  obtain ⟨w1, rfl, e1⟩ := vals1 rz
  obtain rfl : w1 = Value.type "str" := e1
  obtain ⟨its, rv, hl, hz⟩ := I.list hs
  rw [List.length_map] at hz
  have fr : H (s.heap.objs.size + 1) = none := I.hok.fresh (Nat.le_succ _)
  refine PySem.W.sorted_key_data (b := false) (fun x : Str => PyData.str x) hl.isList (eachS rv) (fun d h1 d' h2 => ?_) (.inr fun d h1 => ?_) hz (fun x _ => ?_) (PyProof.Rows.ksk_s1 _ _) (fun _ => PyProof.Rows.ksk_l1 _ _) (fun _ => rfl) (fun v x hR _ h tk k => ?_) fun out c h' tk k _ at1 _ ei => ?_
  · obtain ⟨x, _, rfl⟩ := List.mem_map.mp h1
    obtain ⟨y, _, rfl⟩ := List.mem_map.mp h2
    rfl
  · obtain ⟨x, _, rfl⟩ := List.mem_map.mp h1
    exact ⟨fun z => (nomatch z), fun _ z => (nomatch z)⟩
  · show X.A.units + 2 + 0 < cLine
    omega
  · obtain ⟨t, rfl⟩ := hR
    exact PySem.P.str_of_str ⟨h, tk, rfl, fun _ _ e => e, Reads.str x t⟩
  · rw [PySem.W.dataLe_str] at ei
    have hlen : ((sortS xs).map V.str).length ≤ sizeLine := by
      rw [List.length_map]
      show (xs.mergeSort _).length ≤ _
      rw [List.length_mergeSort]
      exact hz
    refine ⟨.ref (s.heap.objs.size + 1), upd H (s.heap.objs.size + 1) (.lst ((sortS xs).map V.str)), I.laid (t' := tk) k (Nat.le_succ _) ⟨hlen, out, c, valsS ei, at1⟩, rfl, q _ fr⟩
section
variable {σ : L2.St} {H : Hp} {Q : VK} {K : PySem.W.Frag}
theorem rdCKw {r : List V → List V → Hp → VK → Prop} {t tk : TA} (q : t σ H fun vs H1 => tk σ H1 fun zs H2 => r vs zs H2 Q) : tCKw r t tk σ H Q := q
theorem rvSortK {a : Addr} {xs : List Str} (h : SqL K H a (xs.map V.str)) (q : ∀ p, H p = none → Q (.ref p) (upd H p (.lst ((sortS xs).map V.str)))) : rSortK K [.ref a] [.ty "str"] H Q := ⟨a, xs, rfl, rfl, h, q⟩
end
section
variable {σ : L2.St} {H : Hp} {K : PySem.W.Frag} {g : TG} {tb : TS} {D : Ends}
theorem SqL.one {a : Addr} {xs ys : List V} (h : Rd H a (.lst xs)) (h2 : Rd H a (.lst ys)) : xs = ys := by
  rcases h with h | ⟨o, h⟩ <;> rcases h2 with h2 | ⟨o2, h2⟩ <;> rw [h] at h2 <;> cases h2 <;> rfl
/-- for over enumerate of a list that stays -/
theorem forEnum {a : Addr} {xs : List V} (Pv : Nat → L2.St → Hp → Prop) (h0 : Pv 0 σ H) (hl : ∀ i σ G, i ≤ xs.length → Pv i σ G → SqL K G a xs)
    (hs : ∀ i x T σ G, xs[i]? = some x → Pv i σ G → G T = none → g (.ref T) σ (upd G T (.tup [.int (i : Nat), x])) fun σ2 H2 => tb { D with nx := Pv (i + 1), ct := Pv (i + 1), bk := D.nx } σ2 H2)
    (hd : ∀ σ G, Pv xs.length σ G → D.nx σ G) : tFor (iK (Ite K a)) g tb D σ H := by
  refine ⟨fun i m σ G => i + m = xs.length ∧ Pv i σ G, ⟨xs.length, Nat.zero_add _, h0⟩, fun i m σ G ⟨im, pv⟩ => ?_⟩
  have q := hl i σ G (by omega) pv
  cases m with
  | zero =>
    obtain rfl : i = xs.length := im
    exact .inl ⟨⟨xs, q, Nat.le_refl _⟩, hd σ G pv⟩
  | succ m =>
    have hi : i < xs.length := by omega
    refine .inr ⟨⟨xs, xs[i], q, List.getElem?_eq_getElem hi⟩, Pv (i + 1), fun σ' G' p => ⟨m, Nat.lt_succ_self m, by omega, p⟩, fun x G' yl => ?_⟩
    obtain ⟨T, y, rfl, hT, rfl, e⟩ := yl
    exact hs i y T σ G (e xs q) pv hT
end
section
variable {H : Hp} {K : PySem.W.Frag}
theorem DpAll.get : ∀ {vs : List V} {ds : List PyData} {i : Nat} {v : V}, DpAll K H vs ds → vs[i]? = some v → ∃ d, ds[i]? = some d ∧ Dp K H v d
  | _, _, 0, _, .cons a _, e => by cases e; exact ⟨_, rfl, a⟩
  | _, _, i + 1, _, .cons _ b, e => DpAll.get (i := i) b e
  | _, _, _, _, .nil, e => by simp at e
theorem DpAll.app : ∀ {vs us : List V} {ds es : List PyData}, DpAll K H vs ds → DpAll K H us es → DpAll K H (vs ++ us) (ds ++ es)
  | _, _, _, _, .nil, h => h
  | _, _, _, _, .cons a b, h => .cons a (DpAll.app b h)
theorem DpAll.len : ∀ {vs : List V} {ds : List PyData}, DpAll K H vs ds → vs.length = ds.length
  | _, _, .nil => rfl
  | _, _, .cons _ b => congrArg (· + 1) (DpAll.len b)
theorem DpAll.strs : ∀ {ys : List Str}, DpAll K H (ys.map V.str) (ys.map PyData.str)
  | [] => .nil
  | _ :: _ => .cons (.str _) DpAll.strs
theorem DpAll.ints : ∀ {ys : List Int}, DpAll K H (ys.map V.int) (ys.map PyData.int)
  | [] => .nil
  | _ :: _ => .cons (.int _) DpAll.ints
theorem Dp.tupInv {v : V} {ds : List PyData} (h : Dp K H v (.tuple ds)) : ∃ a xs, v = .ref a ∧ SqT K H a xs ∧ DpAll K H xs ds := by
  cases h with
  | tup a b => exact ⟨_, _, rfl, a, b⟩
theorem Dp.lstInv {v : V} {ds : List PyData} (h : Dp K H v (.list ds)) : ∃ a xs, v = .ref a ∧ SqL K H a xs ∧ DpAll K H xs ds := by
  cases h with
  | lst a b => exact ⟨_, _, rfl, a, b⟩
theorem Dp.intInv {v : V} {i : Int} (h : Dp K H v (.int i)) : v = .int i := by cases h; rfl
theorem Dp.strInv {v : V} {z : Str} (h : Dp K H v (.str z)) : v = .str z := by cases h; rfl
theorem DpAll.cons' {vs : List V} {d : PyData} {ds : List PyData} (h : DpAll K H vs (d :: ds)) : ∃ v us, vs = v :: us ∧ Dp K H v d ∧ DpAll K H us ds := by
  cases h with
  | cons a b => exact ⟨_, _, rfl, a, b⟩
theorem DpAll.nil' {vs : List V} (h : DpAll K H vs []) : vs = [] := by cases h; rfl
end
theorem rvRefSeq {K : PySem.W.Frag} {H : Hp} {a : Addr} {xs : List V} {R : Addr → Prop} (h : SqL K H a xs) (q : R a) : ∃ (b : Addr) (ys : List V), [V.ref a] = [V.ref b] ∧ SqL K H b ys ∧ R b := ⟨a, xs, rfl, h, q⟩
section
variable {H : Hp} {Q : VK} {K : PySem.W.Frag}
theorem SqT.hid {S : List Addr} {p : Addr} {xs : List V} (h : SqT K H p xs) (hS : ∀ d ∈ S, ∃ ys, H d = some (.lst ys)) : SqT K (Hid S H) p xs := by
  have no : ∀ u, H p = some u → (∀ ys, u ≠ .lst ys) → p ∉ S := fun u e n z => by
    obtain ⟨ys, e2⟩ := hS p z
    rw [e] at e2
    exact n ys (Option.some.inj e2)
  rcases h with (h | ⟨o, h⟩) | h
  · exact .inl (.inl (Hid.at h (no _ h fun ys z => (nomatch z))))
  · exact .inl (.inr ⟨o, Hid.at h (no _ h fun ys z => (nomatch z))⟩)
  · exact .inr h
theorem rvExtend {l b : Addr} {xs zs : List V} (hl : H l = some (.lst xs)) (hb : H b = some (.lst zs)) (hz : xs.length + zs.length ≤ sizeLine) (q : Q .non (upd H l (.lst (xs ++ zs)))) : rExtend (.ref l) [.ref b] H Q := ⟨l, b, xs, zs, rfl, rfl, hl, hb, hz, q⟩
end
section
variable {H : Hp} {K : PySem.W.Frag}
theorem SqT.put {p d : Addr} {xs ys : List V} {o : HO} (h : SqT K H p xs) (hd : H d = some (.lst ys)) : SqT K (upd H d o) p xs := by
  have no : ∀ u, H p = some u → (∀ ys, u ≠ .lst ys) → p ≠ d := fun u e n z => by
    rw [z, hd] at e
    exact n ys (Option.some.inj e).symm
  rcases h with (h | ⟨o2, h⟩) | h
  · exact .inl (.inl (by rw [upd_ne (no _ h fun ys z => (nomatch z))]; exact h))
  · exact .inl (.inr ⟨o2, by rw [upd_ne (no _ h fun ys z => (nomatch z))]; exact h⟩)
  · exact .inr h
theorem Kp.gone {S : List Addr} {H G : Hp} {l : Addr} (k : Kp S H G) (h : G l = none) (n : l ∉ S) : H l = none := by
  cases q : H l with
  | none => rfl
  | some o =>
    have := k l o n q
    rw [h] at this
    cases this
theorem DpAll.natsInv : ∀ {s : List Nat} {xs : List V}, DpAll K H xs (s.map fun d : Nat => PyData.int d) → xs = s.map fun d : Nat => V.int d
  | [], _, h => DpAll.nil' h
  | d :: s, _, h => by
    obtain ⟨v, us, rfl, a, b⟩ := DpAll.cons' h
    rw [Dp.intInv a, DpAll.natsInv b]
    rfl
theorem DpAll.nats : ∀ {s : List Nat}, DpAll K H (s.map fun d : Nat => V.int d) (s.map fun d : Nat => PyData.int d)
  | [] => .nil
  | _ :: _ => .cons (.int _) DpAll.nats
end
/-! ## while, pop, dicts -/
section
variable {σ : L2.St} {H : Hp} {Q : VK} {K : PySem.W.Frag} {c : TT} {tb : TS} {D : Ends}
/-- while, by what holds ahead of each test with a number that falls -/
theorem whileI (W : Nat → L2.St → Hp → Prop) (m : Nat) (h0 : W m σ H) (hs : ∀ m σ H, W m σ H → c σ H fun b H1 => if b = true then ∃ N : L2.St → Hp → Prop, (∀ σ' H', N σ' H' → ∃ m', m' < m ∧ W m' σ' H') ∧ tb { D with nx := N, ct := N, bk := D.nx } σ H1 else D.nx σ H1) :
    tWhile c tb D σ H := ⟨W, ⟨m, h0⟩, hs⟩
theorem whileGo {W : Nat → L2.St → Hp → Prop} {m : Nat} (q : tb { D with nx := fun σ2 H2 => ∃ j, j < m ∧ W j σ2 H2, ct := fun σ2 H2 => ∃ j, j < m ∧ W j σ2 H2, bk := D.nx } σ H) :
    ∃ N : L2.St → Hp → Prop, (∀ σ' H', N σ' H' → ∃ m', m' < m ∧ W m' σ' H') ∧ tb { D with nx := N, ct := N, bk := D.nx } σ H := ⟨_, fun _ _ z => z, q⟩
theorem rvPop {l : Addr} {xs : List V} {i : Int} {y : V} (h : H l = some (.lst xs)) (e : atI xs i = some y) (h0 : 0 ≤ i) (hz : xs.length ≤ sizeLine) (q : Q y (upd H l (.lst (xs.eraseIdx i.toNat)))) : rPopAt (.ref l) [.int i] H Q := by
  obtain ⟨j, e1, e2, hj, h2, h3⟩ := atI_get e
  have hn : j = i.toNat := by
    obtain ⟨n, rfl⟩ := Int.eq_ofNat_of_zero_le h0
    have : n < xs.length := by omega
    have w : seqIndex? (n : Int) xs.length = some n := by simp [seqIndex?]; omega
    rw [w] at e1
    exact (Option.some.inj e1).symm
  have hl : xs.length < 2 ^ 62 := by have := sizeLine_eq; omega
  subst hn
  exact ⟨l, xs, i, _, y, rfl, rfl, h, by omega, by omega, e1, e2, q⟩
theorem rdDPut {td ty tv : TE} (q : tv σ H fun v H1 => td σ H1 fun x H2 => ty σ H2 fun y H3 => ∃ a H4, x = .ref a ∧ DPut H3 a y v H4 ∧ D.nx σ H4) : sDPut td ty tv D σ H := q
theorem rvDPut {a : Addr} {kvs : List (Key × V)} {x : Str} {v : V} {R : Hp → Prop} (e : H a = some (.dK kvs)) (hl : kvs.length < sizeLine) (q : R (upd H a (.dK (putK kvs (.inr x) v)))) : ∃ b H4, V.ref a = .ref b ∧ DPut H b (.str x) v H4 ∧ R H4 := ⟨a, _, rfl, DPut.k (k := .inr x) e hl, q⟩
theorem rdDNew (q : ∀ a, H a = none → Q (.ref a) (upd H a (.dK []))) : tDNewK σ H Q := q
end
theorem putK_new {kvs : List (Key × V)} {x : Str} {v : V} (h : ∀ kv ∈ kvs, kv.1 ≠ .inr x) : putK kvs (.inr x) v = kvs ++ [(.inr x, v)] := by
  unfold putK
  rw [if_neg]
  simp only [List.any_eq_true, decide_eq_true_eq, not_exists, not_and]
  exact fun kv hk e => h kv hk e
theorem Hid.add {S S' : List Addr} {H : Hp} (h : ∀ b ∈ S', b ∈ S ∨ H b = none) : Same (Hid S H) (Hid S' H) := fun c u e => by
  unfold Hid at *
  split at e
  · cases e
  · rename_i n
    rw [if_neg (fun z => ?_)]
    · exact e
    · rcases h c z with h | h
      · exact n h
      · rw [h] at e
        cases e
/-- from data ahead of two new objects to data beside them -/
theorem Kp.hid2 {S : List Addr} {H G : Hp} {l d : Addr} (k : Kp S H G) (hl : H l = none) (hd : H d = none) : Same (Hid S H) (Hid (l :: d :: S) G) := fun c u e =>
  (k.weak (S' := l :: d :: S) (fun b hb => .tail _ (.tail _ hb))).same c u (Hid.add (S' := l :: d :: S) (fun b hb => by
    rcases List.mem_cons.mp hb with e | hb
    · exact .inr (e ▸ hl)
    · rcases List.mem_cons.mp hb with e | hb
      · exact .inr (e ▸ hd)
      · exact .inl hb) c u e)
theorem Kp.hid1 {S : List Addr} {H G : Hp} {l : Addr} (k : Kp S H G) (hl : H l = none) : Same (Hid S H) (Hid (l :: S) G) := fun c u e =>
  (k.weak (S' := l :: S) (fun b hb => .tail _ hb)).same c u (Hid.add (S' := l :: S) (fun b hb => by
    rcases List.mem_cons.mp hb with e | hb
    · exact .inr (e ▸ hl)
    · exact .inl hb) c u e)
local macro_rules | `(tactic| fail "hv rd1") => `(tactic| first
  | with_reducible refine rdVar (by with_unfolding_all rfl) ?_
  | with_reducible refine rvAddI ?_ | with_reducible refine rvI0 ?_ | with_reducible refine rdSeq ?_ | with_reducible refine rdIfS ?_
  | fail "hv rdD"
  | with_reducible refine Or.inl (Exists.intro _ (And.intro rfl ?_)) | with_reducible refine Exists.intro _ (And.intro rfl ?_)
  | fail "hv rd2" | fail "no step")
local macro_rules | `(tactic| fail "hv rd2") => `(tactic| first
  | (with_reducible refine rvI ?rd_c ?_; (try (case rd_c => fail "hv side")))
  | (with_reducible refine rvMulI ?rd_c ?_; (try (case rd_c => fail "hv side")))
  | with_reducible refine rvIxL (by fail "hv sql") (by with_unfolding_all rfl) ?_
  | with_reducible refine rvIx1 (by fail "hv sql") (by with_unfolding_all rfl) ?_
  | with_reducible refine rvIx2 (by fail "hv sqt") (by with_unfolding_all rfl) ?_
  | with_reducible refine rvLenL (by fail "hv sql") ?_ | with_reducible refine rvLenT (by fail "hv sqt") ?_ | (with_reducible refine rvLenS ?rd_c ?_; (try (case rd_c => fail "hv side"))) | with_reducible refine rvLenD (by fail "hv hp") ?_
  | (with_reducible refine rvAddS ?rd_c ?_; (try (case rd_c => fail "hv side")))
  | with_reducible refine rvInStrs (by fail "hv sql") ?_ | with_reducible refine rvNotInStrs (by fail "hv sql") ?_
  | with_reducible refine rvEqS (by with_unfolding_all rfl) ?_ | with_reducible refine rvNeS (by with_unfolding_all rfl) ?_
  | with_reducible refine rdgCons ?_ | with_reducible refine rdgNil ?_ | with_reducible refine rdgTup (by fail "hv sqt") (by with_unfolding_all rfl) ?_ | with_reducible refine rvSetL (by fail "hv hp") (by with_unfolding_all rfl) ?_
  | with_reducible refine rdFor1 ?_ | with_reducible refine rdForL ?_ | with_reducible refine rdForT ?_ | with_reducible refine rdForE ?_ | with_reducible refine rdForS ?_ | with_reducible refine rdLc1 ?_ | with_reducible refine rdLcL ?_ | with_reducible refine rdLcT ?_ | with_reducible refine rdLcS ?_ | with_reducible refine rdLcE ?_
  | with_reducible refine rdIfE ?_ | with_reducible refine rdAndV ?_ | with_reducible refine rdOrV ?_ | with_reducible refine rdAnd ?_ | with_reducible refine rdOr ?_ | with_reducible refine rdNotV ?_
  | (with_reducible refine And.intro (rvTyL (by fail "hv hp")) ?_) | (with_reducible refine rvAppend (by fail "hv hp") ?rd_c ?_; (try (case rd_c => fail "hv side"))) | (with_reducible refine rvSlS ?rd_c ?_; (try (case rd_c => fail "hv side")))
  | with_reducible refine rvSortK (by fail "hv sql") ?_
  | with_reducible refine rvRefSeq (by fail "hv sql") ?_
  | with_reducible refine rdDPut ?_ | (with_reducible refine rvDPut (by fail "hv hp") ?rd_c ?_; (try (case rd_c => fail "hv side"))) | with_reducible refine rdDNew ?_
  | (with_reducible refine rvMax ?_) | (with_reducible refine rvAbs ?_)
  | with_reducible refine Exists.intro _ (Exists.intro _ (And.intro rfl ?_))
  | with_reducible refine And.intro (Exists.intro _ (by fail "hv sql")) ?_ | with_reducible refine And.intro (Exists.intro _ (by fail "hv sqt")) ?_
  | (with_reducible refine And.intro ?rd_c ?_; (case rd_c => fail "hv side"))
  | fail "no step")
local macro_rules | `(tactic| fail "hv side") => `(tactic| first | assumption | omega | (unfold CDiv; omega) | (unfold CMul; omega) | (unfold CPow; omega) | decide | (simp [sizeLine_eq]; done) | (with_unfolding_all rfl) | fail "no side")
local macro_rules | `(tactic| fail "hv hp") => `(tactic| first | assumption | exact upd_same | (rw [upd_ne (by fail "hv ne")]; fail "hv hp") | fail "no hp")
local macro_rules | `(tactic| fail "hv ne") => `(tactic| first | assumption | exact Ne.symm (by assumption) | exact ne_new (by assumption) (by fail "hv hp") | exact Ne.symm (ne_new (by assumption) (by fail "hv hp")) | fail "no ne")
local macro_rules | `(tactic| fail "hv sql") => `(tactic| first | assumption | exact SqL.of (by fail "hv hp"))
local macro_rules | `(tactic| fail "hv sqt") => `(tactic| first | assumption | exact SqT.of (by fail "hv hp"))
local macro_rules | `(tactic| fail "hv rdD") => `(tactic| dsimp only [cxK, cxKb, cxKn, tOp, tTest, tCB, tCons, tNil, tAsg, tRet, tRetN, tDrop, tNext, gName, gSub, tLst, tTup, tCall, tC, tB, tNot, tSl, tPart, tNoPart, tBM, tPar, tCKw, tYes, tChain, tNotV, List.append_nil])
local macro_rules | `(tactic| fail "hv rd") => `(tactic| ((try dsimp only [cxK, cxKb, cxKn]); repeat' (fail "hv rd1")))
end Hv
set_option Elab.async false
set_option linter.all false
set_option maxRecDepth 100000
set_option maxHeartbeats 4000000
namespace Hv
open PySem PySem.Spec PyProof.Rows L2
/-! ## own operators of a class, by the text's own defs -/
section
variable {prog : Program} {w : World} {A : Around} {E : Value → Shared → Prop} {s : Shared} {K : PySem.W.Frag} {x C f : Addr} {ox : Obj} {od : Option Obj} {v : Value} {M : Model}
theorem contains_own {Q : Bool → Shared → Prop} (X : K.In s.heap) (I : PySem.W.InstAt s.heap x ox C od) (hs : PySem.W.findIn K (.ref C) "__contains__" = some (some (.ref f))) (hf : PySem.W.isFn K (.ref f) = true)
    (h : wpAny M A (call (.ref f) [.ref x, v]) (fun r s' => wpAny M A (truthy r) Q E s') E s) : wpAny M A (contains (.ref x) v) Q E s := by
  unfold contains
  refine wpAny_holding ?_
  rw [show stdlibNamesSay? (.ref x) v = none from rfl]
  refine wpAny_bind (wpAny_bind (I.type.here ((PySem.W.looks_findIn X hs).here ?_)))
  show wpAny M A (if (some (Value.ref f) == some Value.none) = true then _ else _) Q E s
  rw [if_neg (by simp)]
  unfold callSpecialUnlessNone?
  refine wpAny_bind (wpAny_bind (wpAny_bind (I.type.here ((PySem.W.looks_findIn X hs).here ?_))))
  refine wpAny_holding (wpAny_bind ((PySem.W.bind_fn X _ (beq_iff_eq.mp hf)).here ?_))
  show wpAny M A (if (Value.ref f == Value.none) = true then _ else _) _ E s
  rw [if_neg (by simp)]
  exact wpAny_bind (wpAny_mono h (fun r s' z => wpAny_pure z) fun _ _ z => z)
theorem objNe_own {Q : Fin → Shared → Prop} (X : K.In s.heap) (I : PySem.W.InstAt s.heap x ox C od) (hs : PySem.W.findIn K (.ref C) "__eq__" = some (some (.ref f))) (hf : PySem.W.isFn K (.ref f) = true) (hu : A.units < cLine)
    (h : wpAny (model prog w) A (call (.ref f) [.ref x, v]) (fun r s' => ∃ b, r = .bool b ∧ Q (.done (.ret (.bool (!b)))) s') E s) : wpAny (model prog w) A (Builtin.«object.__ne__» ⟨[.ref x, v], []⟩) Q E s := by
  unfold Builtin.«object.__ne__»
  repeat (first
    | with_reducible refine wpAny_cRoomFor hu ?_
    | (refine wpAny_bind (m := callSpecialIfBound? (.ref x) (Str.ofString "__eq__") [v])
        (PySem.W.ifBound_K X I hs hf (wpAny_mono h (fun r s' hr => by
          obtain ⟨b, rfl, hq⟩ := hr
          repeat (first | exact hq | exact wpAny_pure hq | exact wpAny_truthy_bool hq | (refine wpAny_bind (m := truthy (.bool _)) (wpAny_truthy_bool ?_)) | wp_step)) fun _ _ e => e)))
    | wp_step)
theorem ifBound_objNe {args : List Value} {Q : Option Value → Shared → Prop} (X : K.In s.heap) (I : PySem.W.InstAt s.heap x ox C od) (hs : PySem.W.findIn K (.ref C) "__ne__" = some (some (.builtin "object.__ne__")))
    (h : wpAny M A (call (.builtin "object.__ne__") (.ref x :: args)) (fun v => Q (some v)) E s) : wpAny M A (callSpecialIfBound? (.ref x) "__ne__" args) Q E s := by
  simp only [callSpecialIfBound?, bindSpecialIfBound?]
  refine wpAny_holding (wpAny_bind (wpAny_bind (wpAny_bind (I.type.here ((PySem.W.looks_findIn X hs).here ?_)))))
  refine wpAny_bind (wpAny_askSetting (wpAny_ite ?_))
  have fin : wpAny M A (call (.builtin "object.__ne__") ([.ref x] ++ args) >>= fun v => pure (some v)) Q E s := wpAny_bind (wpAny_mono h (fun v s' h' => wpAny_pure h') fun _ _ h' => h')
  split
  · exact wpAny_bind (wpAny_of_eq (F.cmp_object.ne.bind _) (wpAny_pure (by exact fin)))
  · exact wpAny_tryCatch (wpAny_bind (wpAny_of_eq (F.cmp_object.ne.bind _) (wpAny_pure (by exact fin))))
theorem ne_own {tb : Value} {Q : Value → Shared → Prop} (hu : A.units + 1 < cLine) (X : K.In s.heap) (I : PySem.W.InstAt s.heap x ox C od) (hb : PySem.W.Looks (model prog w) s.heap (typeOf v) tb) (hn : PySem.W.notFirst K C tb = true)
    (hm : PySem.W.mroIn K C (.type "object") = some true) (h2 : PySem.W.findIn K (.ref C) "__ne__" = some (some (.builtin "object.__ne__"))) (hs : PySem.W.findIn K (.ref C) "__eq__" = some (some (.ref f))) (hf : PySem.W.isFn K (.ref f) = true)
    (h : wpAny (model prog w) A.in1 (call (.ref f) [.ref x, v]) (fun r s' => ∃ b, r = .bool b ∧ Q (.bool (!b)) s') E s) : wpAny (model prog w) A (richCompare .NotEq (.ref x) v) Q E s := by
  have one : wpAny (model prog w) A (tryCompare (.ref x) "__ne__" v) (fun r s' => ∃ z, r = some z ∧ Q z s') E s := by
    unfold tryCompare
    refine wpAny_bind (ifBound_objNe X I h2 (wpAny_call (codeAny_call_builtin F.cmp_object.ne.plain F.cmpEntry_ne (PySem.W.check_slot F.cmpKind_ne F.cmpSplit_ne (I.type.andThen (PySem.W.looks_mroIn X hm)) (F.cmpArgs_ne _ _)
      (objNe_own (A := A.in1) X I hs hf (show A.units + 1 < cLine from hu) (wpAny_mono h (fun r s' hv => ?_) fun _ _ e => e))))))
    obtain ⟨b, rfl, hq⟩ := hv
    exact ⟨b, rfl, wpAny_pure ⟨_, rfl, hq⟩⟩
  unfold richCompare
  simp only [oneThing_ref]
  refine wpAny_holding (wpAny_bind (wpAny_cRoomFor (Nat.lt_of_succ_lt hu) ?_))
  rw [cmpInfo_NotEq]
  refine wpAny_bind (I.type.here (wpAny_bind (hb.here ?_)))
  split
  · rename_i q
    have e : PySem.W.subIn K tb (.ref C) = some false := by
      rcases Bool.or_eq_true_iff.mp hn with e | e
      · rw [beq_iff_eq.mp e] at q; simp at q
      · exact beq_iff_eq.mp e
    refine wpAny_bind ((PySem.W.looks_subIn X e).here ?_)
    simp only [Bool.false_eq_true, if_false]
    refine wpAny_bind (wpAny_mono one (fun r s' z => ?_) fun _ _ e => e)
    obtain ⟨v, rfl, hq⟩ := z
    exact wpAny_pure hq
  · refine wpAny_bind (wpAny_pure ?_)
    simp only [Bool.false_eq_true, if_false]
    refine wpAny_bind (wpAny_mono one (fun r s' z => ?_) fun _ _ e => e)
    obtain ⟨v, rfl, hq⟩ := z
    exact wpAny_pure hq
end
/-! ## the same as readings -/
/-- the def at f keeps sp where it is called with A around it -/
def RunsAt (X : Cx) (A : Around) (f : Addr) (sp : Sp) (E : XK) : Prop := ∀ (pins : List (Addr × Obj)) (σ : L2.St) (H : Hp) (s : Shared) (Q : VK) (us : List Value) (vs : List V), Inv X pins σ H s → Vals vs us → sp vs H Q E →
  wpAny (model X.prog X.w) A (call (.ref f) us) (EP X pins σ Q) X.xe s
section
variable {X : Cx} {k : Nat} {f C : Addr} {fd : FuncData} {ps : List Str} {sp : Sp} {E : XK} {A : Around}
theorem FnG.at (F : FnG X.prog X.w X.K X.mg X.base k f fd ps sp) (hf : A.frames = X.A.frames) (hr : Room k A) (hG : A.guards = some []) (hb : Binds X.K fd ps []) (hx : Passes (L2.CX X.prog X.w) X E) : RunsAt X A f sp E := by
  intro pins σ H s Q us vs I r h
  have hl : (us ++ []).length = ps.length := by
    rw [List.append_nil, ← r.length]
    exact F.len _ _ _ _ h
  have bt := hb s us I.kIn hl
  rw [List.append_nil] at bt
  have e0 : Env0 X.prog X.w X.K X.mg X.base A X.stack s H := by
    have e := I.env0
    exact ⟨by rw [hf]; exact e.frames, e.mod, e.bs, e.bsz, e.funs, e.frf, e.hok, e.bare⟩
  refine wpAny_call (codeAny_mono (F.go A X.stack s H ⟨us, []⟩ us vs Q E hr hG e0 bt r h) fun res s2 h2 => ?_)
  match res, h2 with
  | .error e, h2 => exact hx pins σ H s e s2 I h2
  | .ok (.ret u), h2 => exact I.after h2
theorem FnOk.at (F : FnOk X.prog X.w X.K X.mg X.base (L2.CX X.prog X.w) k f fd ps sp) (hf : A.frames = X.A.frames) (hr : Room k A) (hb : Binds X.K fd ps []) (hx : Passes (L2.CX X.prog X.w) X E) : RunsAt X A f sp E := by
  intro pins σ H s Q us vs I r h
  have hl : (us ++ []).length = ps.length := by
    rw [List.append_nil, ← r.length]
    exact F.len _ _ _ _ h
  have bt := hb s us I.kIn hl
  rw [List.append_nil] at bt
  have e0 : Env0 X.prog X.w X.K X.mg X.base A X.stack s H := by
    have e := I.env0
    exact ⟨by rw [hf]; exact e.frames, e.mod, e.bs, e.bsz, e.funs, e.frf, e.hok, e.bare⟩
  refine wpAny_call (codeAny_mono (F.run A X.stack s H ⟨us, []⟩ us vs Q E hr e0 bt r h) fun res s2 h2 => ?_)
  match res, h2 with
  | .error e, h2 => exact hx pins σ H s e s2 I h2
  | .ok (.ret u), h2 => exact I.after h2
/-- a def that asks nothing of guards -/
theorem FnOk.g {P : Program} {w : World} {K : PySem.W.Frag} {mg : Str → Option Value} {base : Heap} (F : FnOk P w K mg base (L2.CX P w) k f fd ps sp) : FnG P w K mg base k f fd ps sp :=
  ⟨F.len, fun A up s H ar us vs Q E hr _ => F.run A up s H ar us vs Q E hr⟩
def rInOwn (neg : Bool) (C : Addr) (sp : Sp) (E : XK) : R2 := fun x y H Q => ∃ a dx fs, y = .ref a ∧ H a = some (.ins C dx fs) ∧ sp [.ref a, x] H (fun v H' => ∃ b, v = .bl b ∧ Q (.bl (if neg then !b else b)) H') E
theorem op_inOwn (R : RunsAt X X.A f sp E) (hs : PySem.W.findIn X.K (.ref C) "__contains__" = some (some (.ref f))) (hf : PySem.W.isFn X.K (.ref f) = true) : OpR X (compareOp .In) (rInOwn false C sp E) := by
  intro pins s σ H x y v u Q I rx ry h
  obtain ⟨a, dx, fs, rfl, ha, q⟩ := h
  obtain rfl : u = Value.ref a := ry
  obtain ⟨mA, J, _⟩ := ins_get I.hok ha
  obtain ⟨od, J, _⟩ := J.look
  show wpAny (model X.prog X.w) X.A (do return Value.bool (← contains (.ref a) v)) (EP X pins σ Q) X.xe s
  refine wpAny_bind (contains_own I.kIn J hs hf (wpAny_mono (R pins σ H s _ [.ref a, v] [.ref a, x] I (.cons rfl (.cons rx .nil)) q) (fun r s' z => ?_) fun _ _ z => z))
  obtain ⟨v', H', I', rv, b, rfl, q'⟩ := z
  obtain rfl : r = Value.bool b := rv
  exact wpAny_truthy_bool (wpAny_pure ⟨.bl b, H', I', rfl, q'⟩)
theorem op_notInOwn (R : RunsAt X X.A f sp E) (hs : PySem.W.findIn X.K (.ref C) "__contains__" = some (some (.ref f))) (hf : PySem.W.isFn X.K (.ref f) = true) : OpR X (compareOp .NotIn) (rInOwn true C sp E) := by
  intro pins s σ H x y v u Q I rx ry h
  obtain ⟨a, dx, fs, rfl, ha, q⟩ := h
  obtain rfl : u = Value.ref a := ry
  obtain ⟨mA, J, _⟩ := ins_get I.hok ha
  obtain ⟨od, J, _⟩ := J.look
  show wpAny (model X.prog X.w) X.A (do return Value.bool (!(← contains (.ref a) v))) (EP X pins σ Q) X.xe s
  refine wpAny_bind (contains_own I.kIn J hs hf (wpAny_mono (R pins σ H s _ [.ref a, v] [.ref a, x] I (.cons rfl (.cons rx .nil)) q) (fun r s' z => ?_) fun _ _ z => z))
  obtain ⟨v', H', I', rv, b, rfl, q'⟩ := z
  obtain rfl : r = Value.bool b := rv
  exact wpAny_truthy_bool (wpAny_pure ⟨.bl (!b), H', I', rfl, q'⟩)
def rLenOwn (C : Addr) (sp : Sp) (E : XK) : List V → Hp → VK → Prop := fun xs H Q => ∃ a dx fs, xs = [.ref a] ∧ H a = some (.ins C dx fs) ∧ sp [.ref a] H (fun v H' => ∃ n : Int, v = .int n ∧ 0 ≤ n ∧ n < 2 ^ 63 ∧ Q (.int n) H') E
theorem call_lenOwn (R : RunsAt X X.A.in1 f sp E) (hs : PySem.W.findIn X.K (.ref C) "__len__" = some (some (.ref f))) (hf : PySem.W.isFn X.K (.ref f) = true) : CallR X (.builtin "len") (rLenOwn C sp E) := by
  intro pins s σ H xs us Q I r h
  obtain ⟨a, dx, fs, rfl, ha, q⟩ := h
  obtain rfl := Vals.ref1 r
  obtain ⟨mA, J, _⟩ := ins_get I.hok ha
  obtain ⟨od, J, _⟩ := J.look
  obtain ⟨m, hF⟩ := I.fr
  refine PySem.W.len_K hF I.ok.mod.kin J hs hf (wpAny_mono (R pins σ H s _ [.ref a] [.ref a] I (.cons rfl .nil) q) (fun r s' z => ?_) fun _ _ z => z)
  obtain ⟨v', H', I', rv, n, rfl, h0, h1, q'⟩ := z
  obtain ⟨t, rfl⟩ : ∃ t, r = Value.int n t := rv
  exact ⟨⟨h0, h1⟩, ⟨.int n, H', I'.tok _, ⟨_, rfl⟩, q'⟩⟩
/-- x == y, x != y by the own == of x; t: the type of y -/
def rEqOwn (K : PySem.W.Frag) (neg : Bool) (C : Addr) (sp : Sp) (E : XK) : R2 := fun x y H Q => ∃ a dx fs t, x = .ref a ∧ H a = some (.ins C dx fs) ∧ TyX K H y t ∧ PySem.W.notFirst K C t = true ∧ sp [.ref a, y] H (fun v H' => ∃ b, v = .bl b ∧ Q (.bl (if neg then !b else b)) H') E
theorem op_eqOwn (R : RunsAt X X.A f sp E) (hu : X.A.units < cLine) (hs : PySem.W.findIn X.K (.ref C) "__eq__" = some (some (.ref f))) (hf : PySem.W.isFn X.K (.ref f) = true) : OpR X (compareOp .Eq) (rEqOwn X.K false C sp E) := by
  intro pins s σ H x y v u Q I rx ry h
  obtain ⟨a, dx, fs, t, rfl, ha, ty, nf, q⟩ := h
  obtain rfl : v = Value.ref a := rx
  obtain ⟨mA, J, _⟩ := ins_get I.hok ha
  obtain ⟨od, J, _⟩ := J.look
  obtain ⟨m, hF⟩ := I.fr
  obtain ⟨Pz, Z, p, _⟩ := kit_of I ry ty
  show wpAny _ _ (richCompare .Eq (.ref a) u) _ _ s
  refine PySem.W.cmp_K (op := .Eq) hu hF I.ok.mod.kin J (Z.ty _ _ I.kIn p) nf hs hf (wpAny_mono (R pins σ H s _ [.ref a, u] [.ref a, y] I (.cons rfl (.cons ry .nil)) q) (fun r s' z => ?_) fun _ _ z => z)
  obtain ⟨v', H', I', rv, b, rfl, q'⟩ := z
  obtain rfl : r = Value.bool b := rv
  exact ⟨.bl b, H', I', rfl, q'⟩
theorem op_neOwn (R : RunsAt X X.A.in1 f sp E) (hu : X.A.units + 1 < cLine) (hm : PySem.W.mroIn X.K C (.type "object") = some true) (h2 : PySem.W.findIn X.K (.ref C) "__ne__" = some (some (.builtin "object.__ne__")))
    (hs : PySem.W.findIn X.K (.ref C) "__eq__" = some (some (.ref f))) (hf : PySem.W.isFn X.K (.ref f) = true) : OpR X (compareOp .NotEq) (rEqOwn X.K true C sp E) := by
  intro pins s σ H x y v u Q I rx ry h
  obtain ⟨a, dx, fs, t, rfl, ha, ty, nf, q⟩ := h
  obtain rfl : v = Value.ref a := rx
  obtain ⟨mA, J, _⟩ := ins_get I.hok ha
  obtain ⟨od, J, _⟩ := J.look
  obtain ⟨Pz, Z, p, _⟩ := kit_of I ry ty
  show wpAny _ _ (richCompare .NotEq (.ref a) u) _ _ s
  refine ne_own hu I.kIn J (Z.ty _ _ I.kIn p) nf hm h2 hs hf (wpAny_mono (R pins σ H s _ [.ref a, u] [.ref a, y] I (.cons rfl (.cons ry .nil)) q) (fun r s' z => ?_) fun _ _ z => z)
  obtain ⟨v', H', I', rv, b, rfl, q'⟩ := z
  obtain rfl : r = Value.bool b := rv
  exact ⟨b, rfl, ⟨.bl (!b), H', I', rfl, q'⟩⟩
end
/-! ## defs that ask nothing of guards -/
section
variable {P : Program} {w : World} {K : PySem.W.Frag} {mg : Str → Option Value} {base : Heap} {k : Nat} {x : Str} {ps : List Str} {sp : Sp}
structure CalO (P : Program) (w : World) (K : PySem.W.Frag) (mg : Str → Option Value) (base : Heap) (k : Nat) (x : Str) (ps : List Str) (sp : Sp) : Prop where
  ex : ∃ (f : Addr) (fd : FuncData), mg x = some (.ref f) ∧ PySem.W.keepIn K (.ref f) = true ∧ Binds K fd ps [] ∧ FnOk P w K mg base (L2.CX P w) k f fd ps sp
theorem CalO.cal (c : CalO P w K mg base k x ps sp) : Cal P w K mg base k x ps sp := by
  obtain ⟨f, fd, m, kp, b, F⟩ := c.ex
  exact ⟨f, fd, m, kp, b, FnOk.g F⟩
theorem TopDef.calO {st : Stmt} {N : List Str} (T : TopDef K mg x st ps) (S : FnScope N ps (defScope st)) (len : ∀ vs H Q E, sp vs H Q E → vs.length = ps.length)
    (hb : ∀ (f : Addr) (cd : Value) (A : Around) (up : List Env) (s : Shared) (H : Hp) (vs : List V) (Q : VK) (E : XK), Room k (A.deeper (envOfC x (defScope st) s.heap.objs.size f cd)) →
      sp vs H Q E → ∃ t, PSs (cxOf (L2.CX P w) P w K mg base N x (defScope st) f cd A up s H E) (defBody st) t ∧ t { nx := fun _ G => Q .non G, rt := Q } (L2.start N vs) H) :
    CalO P w K mg base (k + 1) x ps sp := by
  obtain ⟨f, fd, m, F, b⟩ := T.ex
  exact ⟨f, fd, m, F.kp, b, F.okX S len fun cd A up s H vs Q E => hb f cd A up s H vs Q E⟩
theorem TopDef.calO0 {st : Stmt} {N : List Str} (T : TopDef K mg x st ps) (S : FnScope N ps (defScope st)) (len : ∀ vs H Q E, sp vs H Q E → vs.length = ps.length)
    (hb : ∀ (f : Addr) (cd : Value) (A : Around) (up : List Env) (s : Shared) (H : Hp) (vs : List V) (Q : VK) (E : XK), Room k (A.deeper (envOfC x (defScope st) s.heap.objs.size f cd)) →
      sp vs H Q E → ∃ t, PSs (cxOf (L2.CX P w) P w K mg base N x (defScope st) f cd A up s H E).nox (defBody st) t ∧ t { nx := fun _ G => Q .non G, rt := Q } (L2.start N vs) H) :
    CalO P w K mg base (k + 1) x ps sp := T.calO S len fun f cd A up s H vs Q E hr h => by
  obtain ⟨t, a, b⟩ := hb f cd A up s H vs Q E hr h
  exact ⟨t, a.nox, b⟩
end
section
variable {X : Cx} {k : Nat} {x : Str} {ps : List Str} {sp : Sp} {E : XK} {p pos : Pos} {e : Expr} {es : List Expr} {t : TA}
theorem pe_callO (D : CalO X.prog X.w X.K X.mg X.base k x ps sp) (hr : Room k X.A) (hg : Gl X x) (hx : Passes (L2.CX X.prog X.w) X E) (ha : PA X (e :: es) t)
    (hdb : (x == ("__debug__" : Str)) = false := by decide) (hs : starEach (e :: es) X.env = (false, eval e X.env) :: starEach es X.env := by rfl) (hp : (backTo pos (starEach es X.env)).any (·.1) = false := by rfl) :
    PE X (.Call (.Name x p) (e :: es) [] pos) (tCall sp [] E t) := by
  obtain ⟨f, fd, m, kp, b, F⟩ := D.ex
  exact pe_call F hr hg m kp b .nil hx ha hdb hs hp
theorem pe_callO0 (D : CalO X.prog X.w X.K X.mg X.base k x ps sp) (hr : Room k X.A) (hg : Gl X x) (hx : Passes (L2.CX X.prog X.w) X E) (hdb : (x == ("__debug__" : Str)) = false := by decide) : PE X (.Call (.Name x p) [] [] pos) (tCall sp [] E tNil) := by
  obtain ⟨f, fd, m, kp, b, F⟩ := D.ex
  exact pe_call0 F hr hg m kp b .nil hx hdb
theorem pe_glS {z : Str} (hg : Gl X x) (hm : ∃ t, X.mg x = some (.str z t)) (hd : (x == ("__debug__" : Str)) = false := by decide) : PE X (.Name x pos) (tC (.str z)) := by
  obtain ⟨t, hm⟩ := hm
  exact pe_glob hg hm ⟨t, rfl⟩ hd
theorem pe_glI {i : Int} (hg : Gl X x) (hm : ∃ t, X.mg x = some (.int i t)) (hd : (x == ("__debug__" : Str)) = false := by decide) : PE X (.Name x pos) (tC (.int i)) := by
  obtain ⟨t, hm⟩ := hm
  exact pe_glob hg hm ⟨t, rfl⟩ hd
theorem rdChain {r r' : R2} {ta tb tc : TE} {σ : L2.St} {H : Hp} {Q : VK} (q : ta σ H fun x H1 => tb σ H1 fun y H2 => r x y H2 fun z H3 => ∃ k, z = .bl k ∧ (if k = true then tc σ H3 fun w' H4 => r' y w' H4 Q else Q (.bl false) H3)) : tChain r r' ta tb tc σ H Q := q
end
end Hv
set_option Elab.async false
set_option linter.all false
set_option maxRecDepth 100000
set_option maxHeartbeats 4000000
namespace Hv
open PySem PySem.Spec PyProof.Rows L2
/-! ## sorted(d, key=str), d a dict whose keys are texts -/
def rSortDK : List V → List V → Hp → VK → Prop := fun vs zs H Q => ∃ (a : Addr) (kvs : List (Key × V)) (ks : List Str), vs = [.ref a] ∧ zs = [.ty "str"] ∧ Rd H a (.dK kvs) ∧ kvs.map (·.1) = ks.map Sum.inr ∧ ∀ p, H p = none → Q (.ref p) (upd H p (.lst ((sortS ks).map V.str)))
theorem eachS_of : ∀ {us : List Value} {ks : List Str}, us.length = ks.length → (∀ (j : Nat) (v : Value), us[j]? = some v → ∃ y, ks[j]? = some y ∧ IsS v y) → PySem.W.EachIs IsS us ks
  | [], [], _, _ => .nil
  | u :: us, k :: ks, hl, h => by
    obtain ⟨y, hy, hs⟩ := h 0 u rfl
    cases hy
    exact .cons hs (eachS_of (by simpa using hl) fun j v e => h (j + 1) v e)
  | [], _ :: _, hl, _ => by simp at hl
  | _ :: _, [], hl, _ => by simp at hl
theorem sortedDict {X : Cx} (hcalm : X.calm = true) (hu : X.A.units + 65 < cLine) : CallRK X (.builtin "sorted") [Str.ofString "key"] rSortDK := by
  intro pins s σ H vs0 zs us ws Q I r rz h
  obtain ⟨a, kvs, ks, rfl, rfl, hd, hks, q⟩ := h
  obtain rfl := Vals.ref1 r
  obtain ⟨w1, rfl, e1⟩ := vals1 rz
  obtain rfl : w1 = Value.type "str" := e1
  obtain ⟨z, lo, vs, rel, dd⟩ := dk_rd I.hok hd
  obtain ⟨ep, hat⟩ := dd.dictAt
  have hkeys : vs.map (·.1) = ks.map Sum.inr := rel.keys.symm.trans hks
  have hl : vs.length = ks.length := by
    have e := congrArg List.length hkeys
    rw [List.length_map, List.length_map] at e
    exact e
  have h16 : vs.length ≤ sizeLine := by rw [← rel.length]; exact z
  refine PyProof.Rows.call_function_entry_kw PyProof.Rows.kind_sorted PyProof.Rows.plain_sorted PyProof.Rows.entry_sorted (PyProof.Rows.ksk_s1 _ _) ?_
  unfold Builtin.«sorted»
  refine wpAny_bind (m := checkCount "sorted" 1 1 _) (wpAny_pure ?_)
  refine wpAny_bind (PySem.W.kdu_collect (A := X.A.in1) (PySem.W.kdl_dict (knd := mixKind X.prog X.w) (kvs := vs) (ep := ep) lo) (I.ok.hd hcalm) hat h16 fun h' tk acc hk hacc => ?_)
  have hal : acc.toList.length = ks.length := by rw [Array.length_toList, hacc.1, hl]
  have hS : PySem.W.EachIs IsS acc.toList ks := eachS_of hal fun j v e => by
    obtain ⟨k, x, e1, e2⟩ := hacc.2 j v (by rw [← Array.getElem?_toList]; exact e)
    have e3 : (vs.map (·.1))[j]? = some k := by rw [List.getElem?_map, e1]; all_goals rfl
    rw [hkeys, List.getElem?_map] at e3
    cases e4 : ks[j]? with
    | none => rw [e4] at e3; cases e3
    | some y =>
      rw [e4] at e3
      have e5 : Sum.inr y = k := Option.some.inj e3
      subst e5
      obtain ⟨t, ev⟩ := Value.isStrOf_shape (x := y) (v := v) e2
      exact ⟨y, rfl, t, ev⟩
  have hsz : acc.toList.length ≤ sizeLine := by rw [hal, ← hl]; exact h16
  have I1 : Inv X pins σ H { s with heap := h', toks := tk } := I.kept hk
  refine wpAny_bind (wpAny_newList ?_ hsz)
  have hoL : (h'.push (seqObj "list" acc.toList.toArray 0)).get? h'.objs.size = some (seqObj "list" acc.toList.toArray 0) := Heap.get?_push_size _ rfl
  show wpAny _ _ _ _ _ { s with heap := h'.push (seqObj "list" acc.toList.toArray 0), toks := tk }
  refine wpAny_bind (wpAny_holding (PyProof.Rows.wpAny_call_entry_kw PyProof.Rows.slot_list_sort ⟨_, hoL, rfl⟩ PyProof.Rows.entry_list_sort ?body (PyProof.Rows.ksk_l1 _ _)))
  show wpAny (model X.prog X.w) X.A.in1.in1 (Builtin.«list.sort» ⟨[.ref h'.objs.size], [(Str.ofString "key", .type "str")]⟩) _ _ _
  rw [show Builtin.«list.sort» ⟨[.ref h'.objs.size], [(Str.ofString "key", .type "str")]⟩ = PyProof.Rows.ksk_tree h'.objs.size (.type "str") false from rfl]
  refine PySem.W.keyH_tree (kz := ks.map PyData.str) (vs := acc.toList) (s := { s with heap := h'.push (seqObj "list" acc.toList.toArray 0), toks := tk }) hoL (by rw [List.length_map]; exact hal.symm) hsz (fun d h1 d' h2 => ?_) (.inr fun d h1 => ?_) (fun d h1 => ?_)
    (PySem.W.keyH_turns (bs := ks) (k := fun x : Str => PyData.str x) (s := { s with heap := h'.push (seqObj "list" acc.toList.toArray 0), toks := tk }) hS fun v x hR hx h2 tk2 kp => ?_) fun h2 tk2 out c kp hD ko => ⟨_, rfl, wpAny_pure ⟨_, rfl, ?_⟩⟩
  · obtain ⟨x, _, rfl⟩ := List.mem_map.mp h1
    obtain ⟨y, _, rfl⟩ := List.mem_map.mp h2
    rfl
  · obtain ⟨x, _, rfl⟩ := List.mem_map.mp h1
    exact ⟨fun z => (nomatch z), fun _ z => (nomatch z)⟩
  · obtain ⟨x, _, rfl⟩ := List.mem_map.mp h1
    show X.A.units + 2 + 0 < cLine
    omega
  · obtain ⟨t, rfl⟩ := hR
    exact PySem.P.str_of_str ⟨h2, tk2, rfl, fun _ _ e => e, Reads.str x t⟩
  · have ei := PySem.W.keyedOut_each (fun x : Str => PyData.str x) ko hS
    rw [PySem.W.dataLe_str] at ei
    have hlen : ((sortS ks).map V.str).length ≤ sizeLine := by
      rw [List.length_map]
      show (ks.mergeSort _).length ≤ _
      rw [List.length_mergeSort, ← hl]
      exact h16
    refine ⟨.ref h'.objs.size, upd H h'.objs.size (.lst ((sortS ks).map V.str)), I1.laid (t' := tk2) (fun b u e => ?_) (Nat.le_refl _) ⟨hlen, out, c, valsS ei, hD⟩, rfl, q _ (I1.hok.fresh (Nat.le_refl _))⟩
    exact kp b u (Nat.ne_of_lt (Heap.lt_size e)) (Heap.get?_push_of_some _ e)
end Hv
set_option Elab.async false
set_option linter.all false
set_option maxRecDepth 100000
set_option maxHeartbeats 4000000
namespace Hv
open PySem PySem.Spec PyProof.Rows L2
/-! ## things: data, or a dict of plain values -/
def kD : Key → PyData
  | .inl i => .int i
  | .inr x => .str x
/-- a plain value as data -/
def sD : V → Option PyData
  | .non => some .none
  | .bl b => some (.bool b)
  | .int i => some (.int i)
  | .str x => some (.str x)
  | _ => none
def Th (K : PySem.W.Frag) (H : Hp) (x : V) (d : PyData) : Prop := Dp K H x d ∨ ∃ a kvs ps, x = .ref a ∧ Rd H a (.dK kvs) ∧ Paired (fun (p : Key × V) (q : PyData × PyData) => q.1 = kD p.1 ∧ sD p.2 = some q.2) kvs ps ∧ d = .dict ps
theorem reads_s {h : Heap} {v : V} {u : Value} {d : PyData} (e : sD v = some d) (r : RelV v u) : Reads h u d [] := by
  cases v with
  | non => cases e; cases r; exact .none
  | bl b => cases e; cases r; exact .bool b
  | int i => cases e; obtain ⟨t, rfl⟩ := r; exact .int i t
  | str x => cases e; obtain ⟨t, rfl⟩ := r; exact .str x t
  | _ => cases e
theorem pairs_reads {P : Program} {w : World} {h : Heap} : ∀ {es : List DictEntry} {kvs : List (Key × V)} {vs : List (Key × Value)} {ps : List (PyData × PyData)}, Pairs (mixKind P w) es vs → KV kvs vs →
    Paired (fun (p : Key × V) (q : PyData × PyData) => q.1 = kD p.1 ∧ sD p.2 = some q.2) kvs ps → ReadsAll h (es.map (·.key)) (ps.map (·.1)) [] ∧ ReadsAll h (es.map (·.val)) (ps.map (·.2)) []
  | _, _, _, _, .nil, .nil, .nil => ⟨.nil, .nil⟩
  | _, _, _, _, .cons (e := e) (kv := kv) hk hv t, .cons (a := p) r rt, .cons (b := q) s st => by
    obtain ⟨a, b⟩ := pairs_reads t rt st
    refine ⟨.cons (as := []) ?_ a, .cons (as := []) ?_ b⟩
    · show Reads h e.key q.1 []
      rw [s.1, r.1]
      rcases keyIs_shape (show keyIs kv.1 e.key = true from hk) with ⟨i, t, h1, h2⟩ | ⟨x, t, h1, h2⟩
      · rw [h1, h2]; exact .int i t
      · rw [h1, h2]; exact .str x t
    · show Reads h e.val q.2 []
      rw [hv]
      exact reads_s s.2 r.2
/-- repr of a thing: the text that is shown -/
def reprTR (K : PySem.W.Frag) : List V → Hp → VK → Prop := fun xs H Q => ∃ x d, xs = [x] ∧ Th K H x d ∧ d.showable = true ∧ d.depth ≤ 60 ∧ d.shown.length ≤ sizeLine ∧ Q (.str d.shown) H
theorem reprT {X : Cx} {K : PySem.W.Frag} (hK : X.K = K) (hu : X.A.units + 65 < cLine) (hG : X.A.guards = some []) : CallR X (.builtin "repr") (reprTR K) := by
  subst hK
  intro pins s σ H xs us Q I r h
  obtain ⟨x, d, rfl, hd | ⟨a, kvs, ps, rfl, ha, hps, rfl⟩, hs, hdep, hz, q⟩ := h
  · exact reprC rfl hu hG pins s σ H [x] us Q I r ⟨x, d, rfl, hd, hs, hdep, hz, q⟩
  · obtain rfl := Vals.ref1 r
    obtain ⟨_, lo, vs, rel, o, es, ep, ho, hex, hdt, _, hp, _⟩ := dk_rd I.hok ha
    obtain ⟨r1, r2⟩ := pairs_reads (h := s.heap) hp rel hps
    have rd : Reads s.heap (.ref a) (.dict ps) (a :: [] ++ []) := .dict ho hex.1 hdt (by simpa using r1) (by simpa using r2)
    exact repr_of_reads' rd hs (fun _ => by simpa using (beq_eq_false_iff_ne.mp lo).symm) hG (by omega) (fun _ _ e => e) (fun h' t tk k => ⟨.str _, H, I.kept k, ⟨t, rfl⟩, q⟩) hz
/-! ## isinstance of a thing -/
/-- the type of data -/
def tyD : PyData → String
  | .none => "NoneType"
  | .bool _ => "bool"
  | .int _ => "int"
  | .str _ => "str"
  | .list _ => "list"
  | .tuple _ => "tuple"
  | .dict _ => "dict"
theorem SqL.ty {K : PySem.W.Frag} {H : Hp} {a : Addr} {xs : List V} (h : SqL K H a xs) : TyX K H (.ref a) (.type "list") := by
  rcases h with (h | ⟨o, h⟩) | ⟨o, its, n, h, hc, _⟩
  · exact .base (.lst h)
  · exact .base (.frz h)
  · exact .kList h hc
theorem SqT.ty {K : PySem.W.Frag} {H : Hp} {a : Addr} {xs : List V} (h : SqT K H a xs) : TyX K H (.ref a) (.type "tuple") := by
  rcases h with (h | ⟨o, h⟩) | ⟨o, its, n, h, hc, _⟩
  · exact .base (.tup h)
  · exact .fTuple h
  · exact .kTuple h hc
theorem Dp.ty {K : PySem.W.Frag} {H : Hp} {x : V} {d : PyData} (h : Dp K H x d) : TyX K H x (.type (tyD d)) := by
  cases h with
  | non => exact .base .non
  | bl b => exact .base (.bl b)
  | int i => exact .base (.int i)
  | str x => exact .base (.str x)
  | lst h _ => exact SqL.ty h
  | tup h _ => exact SqT.ty h
theorem Th.ty {K : PySem.W.Frag} {H : Hp} {x : V} {d : PyData} (h : Th K H x d) : TyX K H x (.type (tyD d)) := by
  rcases h with h | ⟨a, kvs, ps, rfl, ha, _, rfl⟩
  · exact Dp.ty h
  · rcases ha with h | ⟨o, h⟩
    · exact .base (.dK h)
    · exact .fDict h
end Hv
set_option Elab.async false
set_option linter.all false
set_option maxRecDepth 100000
set_option maxHeartbeats 4000000
namespace Hv
open PySem PySem.Spec PyProof.Rows L2
open Builtin Builtin.ObjectAttr
/-! ## own exception classes over any built-in one, with an __init__ that stores -/
theorem owns_split (bB : List Value) (l : List Value) (h : ownsThen bB l = true) : (∃ c r, l = .ref c :: r ∧ ownsThen bB r = true) ∨ l = bB := by
  unfold ownsThen at h
  split at h
  · exact .inl ⟨_, _, rfl, h⟩
  · exact .inr (beq_iff_eq.mp h)
theorem owns_has (bB : List Value) (Y : String) : ∀ l : List Value, ownsThen bB l = true → l.contains (.type Y) = bB.contains (.type Y) := by
  intro l
  induction l with
  | nil =>
    intro h
    rcases owns_split bB [] h with ⟨c, r, e, _⟩ | e
    · cases e
    · rw [← e]
  | cons a l ih =>
    intro h
    rcases owns_split bB (a :: l) h with ⟨c, r, e, h2⟩ | e
    · cases e
      rw [List.contains_cons, ih h2]
      rfl
    · rw [e]
theorem owns_pass (bB : List Value) (hp : ∀ o, refuseLoop o "__setattr__" bB = pure ()) (o : Value) : ∀ l : List Value, ownsThen bB l = true → refuseLoop o "__setattr__" l = pure () := by
  intro l
  induction l with
  | nil =>
    intro h
    rcases owns_split bB [] h with ⟨c, r, e, _⟩ | e
    · cases e
    · rw [e]; exact hp o
  | cons a l ih =>
    intro h
    rcases owns_split bB (a :: l) h with ⟨c, r, e, h2⟩ | e
    · cases e
      rw [refuseLoop_ref]
      exact ih h2
    · rw [e]; exact hp o
/-- what is known of the built-in class below -/
structure Under (B nw ini : String) (bB : List Value) : Prop where
  ex : ExcBaseFacts B nw ini bB
  st : StoreFacts B bB "object.__setattr__" "object"
theorem under_V : Under "ValueError" "ValueError.__new__" "ValueError.__init__" [.type "ValueError", .type "Exception", .type "BaseException", .type "object"] := ⟨F.excBase_ValueError, F.store_ValueError⟩
theorem under_L : Under "LookupError" "LookupError.__new__" "LookupError.__init__" [.type "LookupError", .type "Exception", .type "BaseException", .type "object"] := ⟨F.excBase_LookupError, F.store_LookupError⟩
theorem under_R : Under "RuntimeError" "RuntimeError.__new__" "RuntimeError.__init__" [.type "RuntimeError", .type "Exception", .type "BaseException", .type "object"] := ⟨F.excBase_RuntimeError, F.store_RuntimeError⟩
theorem under_A : Under "ArithmeticError" "ArithmeticError.__new__" "ArithmeticError.__init__" [.type "ArithmeticError", .type "Exception", .type "BaseException", .type "object"] := ⟨F.excBase_ArithmeticError, F.store_ArithmeticError⟩
/-- what the written part says of such a class -/
structure ExC (K : PySem.W.Frag) (C : Addr) (nw : String) (bB : List Value) : Prop where
  cls : ∃ nm q N bs bm sn sub ab col dd k0 k1 k2 k3 k5, K.lookup C = some (excClassObj nm q C N bs bm true sn sub ab col dd k0 k1 k2 k3 k5 nw) ∧ ownsThen bB bm = true
  sa : PySem.W.findIn K (.ref C) "__setattr__" = some (some (.builtin "object.__setattr__"))
  exC : PySem.W.subIn K (.ref C) (.type "BaseException") = some true
  tyC : PySem.W.typeIn K (.ref C) = some (.type "type")
  kC : PySem.W.keepIn K (.ref C) = true
section
variable {prog : Program} {w : World} {A : Around} {R : Result → Shared → Prop} {hp : Heap} {g : Array GenState} {d : Drawn} {t : Nat} {os : OsState} {K : PySem.W.Frag} {C e : Addr} {nw B ini : String} {bB : List Value} {nm : Str} {tk : Tok} {v : Value} {fv : Array Value}
/-- the class as the machine looks at it, and what a store asks of its line -/
theorem ExC.seen (T : ExC K C nw bB) (U : Under B nw ini bB) : ∃ cd : ClassData, PySem.W.clsIn K C = some cd ∧ cd.hasDict = true ∧ ownsThen bB cd.mro = true ∧ PySem.W.mroIn K C (.type "object") = some true := by
  obtain ⟨nm, q, N, bs, bm, sn, sub, ab, col, dd, k0, k1, k2, k3, k5, hC, hbm⟩ := T.cls
  have hc : PySem.W.clsIn K C = some { name := nm, bases := bs, mro := .ref C :: bm, ns := N, qualname := q, hasDict := true, slotNames := sn, subclasses := sub, abstract := ab, collection := col, hasDel := false } := by
    unfold PySem.W.clsIn
    rw [hC] <;> rfl
  refine ⟨_, hc, rfl, hbm, ?_⟩
  unfold PySem.W.mroIn
  rw [hc, Option.bind_some]
  have h2 : (Value.ref C :: bm).contains (.type "object") = true := by
    rw [List.contains_cons, owns_has bB "object" bm hbm, U.st.hasOwner, Bool.or_true]
  first
    | (rw [if_neg (by simp), h2])
    | (simp only [List.isEmpty_cons]; rw [h2]; rfl)
/-- object.__setattr__ on such an exception: only the store into its own dict is left -/
theorem osa_to {Q : Fin → Shared → Prop} {E : Value → Shared → Prop} {ox : Obj} {od : Option Obj} {cd : ClassData} (U : Under B nw ini bB) (X : K.In hp) (I : PySem.W.InstAt hp e ox C od) (hcd : PySem.W.clsIn K C = some cd) (how : ownsThen bB cd.mro = true) (ha : PySem.W.findIn K (.ref C) nm = some none)
    (h : wpAny (model prog w) A (storeInOwnDict (.ref e) (.ref C) (.str nm tk) nm v false) Q E ⟨hp, g, d, t, os⟩) : wpAny (model prog w) A (Builtin.«object.__setattr__» ⟨[.ref e, .str nm tk, v], []⟩) Q E ⟨hp, g, d, t, os⟩ := by
  have line : PySem.W.Looks (model prog w) hp (mroOf (.ref C)) cd.mro := (PySem.W.looks_clsIn X hcd).andThen .now
  have none_takes : PySem.W.Looks (model prog w) hp (storeTaker? none) none := .now
  rw [PySem.W.osa_eq, refuse_eq]
  refine wpAny_bind (wpAny_bind (I.type.at (wpAny_bind (line.at ?_)))) ; rw [owns_pass bB U.st.passes _ _ how]
  refine wpAny_pure (wpAny_bind (I.type.at (wpAny_bind ((PySem.W.looks_findIn X ha).at (wpAny_bind (none_takes.at ?_)))))) ; exact h
theorem osa_call {ox : Obj} {od : Option Obj} (U : Under B nw ini bB) (X : K.In hp) (I : PySem.W.InstAt hp e ox C od) (hm : PySem.W.mroIn K C (.type "object") = some true)
    (h : wpAny (model prog w) A.in1 (Builtin.«object.__setattr__» ⟨[.ref e, .str nm tk, v], []⟩) (GQ.FinOf prog w A R) (fun er s' => R (.error er) s') ⟨hp, g, d, t, os⟩) :
    codeAny (model prog w) A (.call (.builtin "object.__setattr__") ⟨[.ref e, .str nm tk, v], []⟩) R ⟨hp, g, d, t, os⟩ := by
  have SO := F.store_object
  have sub : PySem.W.Looks (model prog w) hp (isInstance (.ref e) (.type "object")) true := I.type.andThen (PySem.W.looks_mroIn X hm)
  exact codeAny_call_builtin SO.slot.plain SO.entry (@PySem.W.check_slot (model prog w) _ _ ⟨hp, g, d, t, os⟩ "object.__setattr__" "object" "__setattr__" (.ref e) [.str nm tk, v] [] _ SO.kind SO.split sub (SO.args (.ref e) (.str nm tk) v) h)
/-- the first attribute: the dict is laid -/
theorem osa_first {cd : ClassData} (U : Under B nw ini bB) (X : K.In hp) (he : hp.get? e = some { cls := .ref C, data := .fields fv }) (hcd : PySem.W.clsIn K C = some cd) (hd : cd.hasDict = true) (how : ownsThen bB cd.mro = true) (hm : PySem.W.mroIn K C (.type "object") = some true) (ha : PySem.W.findIn K (.ref C) nm = some none)
    (hq : ∀ h2 tk2 dx, (∀ b o, b ≠ e → hp.get? b = some o → h2.get? b = some o) → hp.objs.size ≤ dx → dx ≠ e → h2.get? e = some { cls := .ref C, dict := some dx, data := .fields fv } → h2.Ns1 dx (fun y => if y = nm then some v else none) → R (.ok (.ret .none)) ⟨h2, g, d, tk2, os⟩) :
    codeAny (model prog w) A (.call (.builtin "object.__setattr__") ⟨[.ref e, .str nm tk, v], []⟩) R ⟨hp, g, d, t, os⟩ := by
  have I : PySem.W.InstAt hp e { cls := .ref C, data := .fields fv } C none := ⟨he, rfl, rfl, trivial⟩
  have far : e ≠ hp.objs.size := Nat.ne_of_lt (Heap.lt_size he)
  have look : PySem.W.Looks (model prog w) hp (classData C) cd := PySem.W.looks_clsIn X hcd
  refine osa_call U X I hm (osa_to U X I hcd how ha ?_)
  obtain ⟨cn, cb, cm, cs, cq, ch, csn, csb, cab, cco, cde⟩ := cd ; dsimp only at hd ; subst hd
  unfold storeInOwnDict ownDictForStores
  repeat (first | with_reducible refine PySem.HandSPX.store_in_new ?_ ?_ | with_reducible refine wpAny_loadPart_at he ?_ | with_reducible refine look.at ?_ | wp_step)
  · refine ⟨_, #[], _, (Heap.get?_update_ne _ _ _ _ far.symm).trans (Heap.get?_push_at rfl rfl), rfl, fun x hx => absurd hx (by simp), fun _ => rfl⟩
  · intro h2 tk2 hn same
    have he2 : (hp.push { cls := .type "dict", data := .dict #[] }).get? e = some { cls := .ref C, data := .fields fv } := Heap.get?_push_of_some _ he
    exact hq h2 tk2 hp.objs.size (fun b o hb ho => (same.2 b (Nat.ne_of_lt (Heap.lt_size ho))).trans ((Heap.get?_update_ne _ _ _ _ hb).trans (Heap.get?_push_of_some _ ho))) (Nat.le_refl _) far.symm ((same.2 e far).trans (Heap.get?_update_self _ he2 rfl)) hn
/-- a further one -/
theorem osa_next {cd : ClassData} {dx : Addr} {m0 : Str → Option Value} {nl : List Str} (U : Under B nw ini bB) (X : K.In hp) (he : hp.get? e = some { cls := .ref C, dict := some dx, data := .fields fv }) (hcd : PySem.W.clsIn K C = some cd) (hd : cd.hasDict = true) (how : ownsThen bB cd.mro = true)
    (hm : PySem.W.mroIn K C (.type "object") = some true) (ha : PySem.W.findIn K (.ref C) nm = some none) (hns : hp.Ns1 dx m0) (hwi : Within m0 nl) (hz : nl.length ≤ 1000)
    (hq : ∀ h2 tk2, (∀ b o, b ≠ dx → hp.get? b = some o → h2.get? b = some o) → h2.Ns1 dx (fun y => if y = nm then some v else m0 y) → R (.ok (.ret .none)) ⟨h2, g, d, tk2, os⟩) :
    codeAny (model prog w) A (.call (.builtin "object.__setattr__") ⟨[.ref e, .str nm tk, v], []⟩) R ⟨hp, g, d, t, os⟩ := by
  obtain ⟨oD, _, _, atD, _, _⟩ := hns.count hwi
  have I : PySem.W.InstAt hp e { cls := .ref C, dict := some dx, data := .fields fv } C (some oD) := ⟨he, rfl, rfl, atD⟩
  have look : PySem.W.Looks (model prog w) hp (classData C) cd := PySem.W.looks_clsIn X hcd
  refine osa_call U X I hm (osa_to U X I hcd how ha ?_)
  obtain ⟨cn, cb, cm, cs, cq, ch, csn, csb, cab, cco, cde⟩ := cd ; dsimp only at hd ; subst hd
  unfold storeInOwnDict ownDictForStores
  repeat (first | with_reducible refine PySem.OEX.store_in_old hns hwi hz ?_ | with_reducible refine wpAny_loadPart_at he ?_ | with_reducible refine look.at ?_ | wp_step)
  intro h2 tk2 hn same
  exact hq h2 tk2 (fun b o hb ho => (same.2 b hb).trans ho) hn
end
section
variable {X : Cx} {pins : List (Addr × Obj)} {σ : L2.St} {H : Hp} {s : Shared} {a C : Addr} {f : Str} {y : V} {u : Value} {fs : List (Str × V)} {Q : Unit → Shared → Prop} {E : Value → Shared → Prop} {A : Around} {B nw ini : String} {bB : List Value}
/-- the exception at a has got its dict at n -/
theorem inv_dict {hp h2 : Heap} {g : Array GenState} {d : Drawn} {t t2 : Nat} {os : OsState} {n t1 : Addr} (I : Inv X pins σ H ⟨hp, g, d, t, os⟩) (ea : H a = some (exo a C none)) (ry : RelV y u) (kept : ∀ b o, b ≠ a → hp.get? b = some o → h2.get? b = some o) (big : hp.objs.size ≤ n) (na : n ≠ a)
    (oa : h2.get? a = some ({ cls := .ref C, dict := some n, data := .fields #[.ref t1, .none, .none, .none, .bool false, .none] } : Obj)) (on : h2.Ns1 n (fun z => if z = f then some u else none)) :
    Inv X pins σ (upd (upd H n (exd n [(f, y)])) a (exo a C (some n))) ⟨h2, g, d, t2, os⟩ := by
  have fresh : H n = none := I.hok.fresh big
  have notn : ∀ {b : Addr} {o : Obj}, hp.get? b = some o → b ≠ n := fun {b o} z => Nat.ne_of_lt (Nat.lt_of_lt_of_le (Heap.lt_size z) big)
  have nota : ∀ {b : Addr}, H b = none → b ≠ a := fun {b} z w => by rw [w, ea] at z; cases z
  have same : ∀ {b : Addr} {o : HO}, H b = some o → o ≠ exo a C none → upd (upd H n (exd n [(f, y)])) a (exo a C (some n)) b = some o := fun {b o} z w => by
    have nb : b ≠ a := fun q => w (by rw [q, ea] at z; exact (Option.some.inj z).symm)
    rw [upd_ne nb, upd_ne (ne_of_none z fresh)]; exact z
  refine I.un (t' := t2) ⟨fun b o z m _ _ => kept b o (nota m) z, fun b o z m _ _ => ⟨o.slots, kept b o (nota m) z⟩, fun b o z m _ => ?_, fun b o z _ => ?_, fun b xs z => same z (fun q => exo_tup q.symm),
    fun b o v z => same z (fun q => exo_frz q.symm), fun b ps z => ⟨#[], by rw [same z (fun q => exo_tbl q.symm)]; simp⟩⟩ fun b o z => ?_
  · rw [upd_ne (nota m), upd_ne (notn z)]; exact m
  · rcases Decidable.em (b = a) with hb | hb
    · exact ⟨_, by rw [hb]; exact oa⟩
    · exact ⟨o, kept b o hb z⟩
  · rcases Decidable.em (b = a) with hb | hb
    · subst hb; rw [upd_same] at z; cases z; exact exo_ok oa
    rw [upd_ne hb] at z
    rcases Decidable.em (b = n) with hn | hn
    · subst hn; rw [upd_same] at z; cases z; exact exd_ok on (relO_put (fs := []) ry fun _ => True.intro)
    rw [upd_ne hn] at z
    have ownNe : ∀ {c b' : Addr}, H c = some (.own b') → c ≠ a := fun {c b'} q w => by rw [w, ea] at q; exact exo_own (Option.some.inj q)
    exact (I.hok b o z).stay (fun c v hc q => kept c v (hc.elim (fun hc => by rw [hc]; exact hb) ownNe) q) (fun c hc => same hc fun q => exo_own q.symm) fun c xs hc => same hc fun q => exo_tup q.symm
/-- self.f = y, the first -/
theorem ox_first (T : ExC X.K C nw bB) (U : Under B nw ini bB) (I : Inv X pins σ H s) (ea : H a = some (exo a C none)) (hno : PySem.W.findIn X.K (.ref C) f = some none) (ry : RelV y u)
    (h : ∀ n s2, H n = none → n ≠ a → Inv X pins σ (upd (upd H n (exd n [(f, y)])) a (exo a C (some n))) s2 → Q () s2) : wpAny (model X.prog X.w) A (setAttr (.ref a) f u) Q E s := by
  obtain ⟨cd, hcd, hd, how, hm⟩ := T.seen U
  obtain ⟨t1, oa⟩ := exo_at I.hok ea
  obtain ⟨hp, g, d, t, os⟩ := s
  refine PySem.W.set_plain I.kIn (ox := { cls := .ref C, dict := none, data := .fields #[.ref t1, .none, .none, .none, .bool false, .none] }) (od := none) ⟨oa, rfl, rfl, trivial⟩ T.sa (osa_first U I.kIn oa hcd hd how hm hno fun h2 tk2 n kept big na oa2 on => ?_)
  exact h n _ (I.hok.fresh big) na (inv_dict I ea ry kept big na oa2 on)
theorem ox_next {n : Addr} (T : ExC X.K C nw bB) (U : Under B nw ini bB) (I : Inv X pins σ H s) (ea : H a = some (exo a C (some n))) (en : H n = some (exd n fs)) (hl : fs.length ≤ 900) (hno : PySem.W.findIn X.K (.ref C) f = some none) (ry : RelV y u)
    (h : ∀ s2, Inv X pins σ (upd H n (exd n ((f, y) :: fs))) s2 → Q () s2) : wpAny (model X.prog X.w) A (setAttr (.ref a) f u) Q E s := by
  obtain ⟨cd, hcd, hd, how, hm⟩ := T.seen U
  obtain ⟨t1, oa⟩ := exo_at I.hok ea
  obtain ⟨mA, hns, rel⟩ := exd_at I.hok en
  have inside := within_of rel
  obtain ⟨hp, g, d, t, os⟩ := s
  obtain ⟨oD, _, _, atD, _, _⟩ := hns.count inside
  refine PySem.W.set_plain I.kIn (ox := { cls := .ref C, dict := some n, data := .fields #[.ref t1, .none, .none, .none, .bool false, .none] }) (od := some oD) ⟨oa, rfl, rfl, atD⟩ T.sa
    (osa_next U I.kIn oa hcd hd how hm hno hns inside (by rw [List.length_map]; omega) fun h2 tk2 kept on => ?_)
  obtain ⟨o2, e2⟩ : ∃ o, h2.get? n = some o := by obtain ⟨o, _, _, z, _⟩ := on; exact ⟨o, z⟩
  exact h _ (I.write (t' := tk2) (x := n) (e := n) (o := exd n ((f, y) :: fs)) (by rw [en]; exact True.intro) (.inl rfl) kept ⟨o2, e2⟩ (exd_ok on (relO_put ry rel)))
end
/-! ## the same as readings -/
/-- self.f = e, self an exception that is being made -/
def tOx (K : PySem.W.Frag) (C : Addr) (f : Str) (to te : TE) : TS := fun D σ H => te σ H fun y H1 => to σ H1 fun x H2 => ∃ a : Addr, x = .ref a ∧
  ((H2 a = some (exo a C none) ∧ ∀ n, H2 n = none → n ≠ a → D.nx σ (upd (upd H2 n (exd n [(f, y)])) a (exo a C (some n)))) ∨
    ∃ (n : Addr) (fs : List (Str × V)), H2 a = some (exo a C (some n)) ∧ H2 n = some (exd n fs) ∧ fs.length ≤ 900 ∧ D.nx σ (upd H2 n (exd n ((f, y) :: fs))))
/-- C(e, ..) as an exception, C's own __init__ keeping sp -/
def tMkX (C : Addr) (sp : Sp) (ta : TA) : L2.St → Hp → XK → Prop := fun σ H Q => ta σ H fun vs H1 => vs.length ≤ 1000 ∧ ∀ a, H1 a = none → sp (.ref a :: vs) (upd H1 a (exo a C none))
  (fun v H2 => v = .non ∧ ∃ (n : Addr) (fs : List (Str × V)), H2 a = some (exo a C (some n)) ∧ H2 n = some (exd n fs) ∧ H1 n = none ∧ Q (.ref C) (some n) (upd (del H2 a) n (.xd fs))) (fun _ _ _ => False)
section
variable {X : Cx} {o e : Expr} {es : List Expr} {to te : TE} {ta : TA} {f : Str} {p p' pos : Pos} {C : Addr} {B nw ini : String} {bB : List Value}
theorem ps_ox (T : ExC X.K C nw bB) (U : Under B nw ini bB) (hno : PySem.W.findIn X.K (.ref C) f = some none) (ho : PE X o to) (he : PE X e te) (hs : swapsWith e (some (.Attribute o f p')) pos.line X.env = pure false := by rfl) :
    PS X (.Assign [.Attribute o f p'] e pos) (tOx X.K C f to te) := by
  refine ⟨fun pins s σ H D I h => plainObj_wpAny_Assign_Attribute (thn (he.run pins s σ H _ I h) fun v s1 ⟨y, H1, I1, r1, q1⟩ => thn (ho.run pins s1 σ H1 _ I1 q1) fun u s2 ⟨x, H2, I2, r2, a, ex, q⟩ => ?_) hs⟩
  subst ex
  obtain rfl : u = Value.ref a := r2
  rcases q with ⟨ea, q⟩ | ⟨n, fs, ea, en, hl, q⟩
  · exact ox_first T U I2 ea hno r1 fun n s3 fresh na J => ⟨σ, _, J, q n fresh na⟩
  · exact ox_next T U I2 ea en hl hno r1 fun s3 J => ⟨σ, _, J, q⟩
theorem pmk_ox {x : Str} {fI : Addr} {k : Nat} {fd : FuncData} {ps : List Str} {sp : Sp} (T : ExC X.K C nw bB) (U : Under B nw ini bB) (iC : PySem.W.findIn X.K (.ref C) "__init__" = some (some (.ref fI))) (tI : PySem.W.typeIn X.K (.ref fI) = some (.type "function"))
    (G : FnOk X.prog X.w X.K X.mg X.base (L2.CX X.prog X.w) k fI fd ps sp) (hr : Room (k + 1) X.A) (hb : Binds X.K fd ps []) (hg : Gl X x) (hm : X.mg x = some (.ref C)) (ha : PA X (e :: es) ta)
    (hdb : (x == ("__debug__" : Str)) = false := by decide) (hs : starEach (e :: es) X.env = (false, eval e X.env) :: starEach es X.env := by rfl) (hp : (backTo pos (starEach es X.env)).any (·.1) = false := by rfl) :
    PMk X (.Call (.Name x p) (e :: es) [] pos) (tMkX C sp ta) := by
  intro pins s σ H Q I h
  obtain ⟨nm, q, N, bs, bm, sn, sub, ab, col, dd, k0, k1, k2, k3, k5, hC, hbm⟩ := T.cls
  refine wpAny_Call_Name_kw (ld_glob I hg hm (PySem.W.callWith_K (h₀ := X.base) I.ok.mod.kin T.kC (thn (ha.run pos pins s σ H _ I h) fun us s1 ⟨vs, H1, I1, r1, hz, q1⟩ => ⟨I1.kIn, ?_⟩) hs hp) hdb)
  show wpAny (model X.prog X.w) X.A (call (.ref C) us) _ _ _
  obtain ⟨hp, g, dr, tk, os⟩ := s1
  have up1 : hp.objs.size ≤ hp.objs.size + 1 := Nat.le_succ _
  have fresh : H1 (hp.objs.size + 1) = none := I1.hok.fresh up1
  have want := q1 (hp.objs.size + 1) fresh
  have grown : ∀ b o, hp.get? b = some o → ((hp.push (PySem.W.kdv_tup us)).push (PySem.HandSPX.excO C hp.objs.size)).get? b = some o := fun b o z => Heap.get?_push_of_some _ (Heap.get?_push_of_some _ z)
  have there : ((hp.push (PySem.W.kdv_tup us)).push (PySem.HandSPX.excO C hp.objs.size)).get? (hp.objs.size + 1) = some (PySem.HandSPX.excO C hp.objs.size) := by heap_get
  have J := I1.laid (t' := tk) (a := hp.objs.size + 1) (o := exo (hp.objs.size + 1) C none) (h' := (hp.push (PySem.W.kdv_tup us)).push (PySem.HandSPX.excO C hp.objs.size)) grown up1 (exo_ok there)
  have rr : Vals (V.ref (hp.objs.size + 1) :: vs) (Value.ref (hp.objs.size + 1) :: us) := .cons rfl r1
  have ln : (Value.ref (hp.objs.size + 1) :: us ++ []).length = ps.length := by rw [List.append_nil, ← rr.length]; exact G.len _ _ _ _ want
  have few : us.length ≤ sizeLine := by rw [← Paired.length r1, sizeLine_eq]; omega
  have bt := hb _ (Value.ref (hp.objs.size + 1) :: us) J.kIn ln
  rw [List.append_nil] at bt
  refine wpAny_call (PySem.HandSPX.call_own U.ex (fun Y => owns_has bB Y bm hbm) (I1.kIn _ _ hC) (PySem.W.looks_findIn I1.kIn iC) (fun self => PySem.W.bind_fn I1.kIn self tI) few
    (codeAny_mono (G.run _ X.stack _ _ ⟨Value.ref (hp.objs.size + 1) :: us, []⟩ (Value.ref (hp.objs.size + 1) :: us) _ _ (fun _ _ _ => False) (hr.make C us []) (J.env0.make C us []) bt rr want) fun res s2 back => ?_))
  match res, back with
  | .error er, ⟨_, _, _, _, _, _, _, _, _, _, _, _, no⟩ => exact no.elim
  | .ok (.ret u), ⟨v, H2, os2, bare2, un2, hok2, rv, ev, n, fs, ea, en, hn1, q2⟩ =>
    subst ev
    obtain ⟨h2, g2, d2, t2, os'⟩ := s2
    exact ⟨rv, mk_end (raises_own T.exC T.tyC) I1 up1 grown un2 hok2 os2 bare2 ea en hn1 q2⟩
end
/-! ## the two shapes: one attribute, two attributes -/
def spE1 (C : Addr) (f : Str) : Sp := fun vs H Q _ => ∃ (a : Addr) (y : V), vs = [.ref a, y] ∧ H a = some (exo a C none) ∧ ∀ n, H n = none → n ≠ a → Q .non (upd (upd H n (exd n [(f, y)])) a (exo a C (some n)))
def spE2 (C : Addr) (f g : Str) : Sp := fun vs H Q _ => ∃ (a : Addr) (y z : V), vs = [.ref a, y, z] ∧ H a = some (exo a C none) ∧ ∀ n, H n = none → n ≠ a → Q .non (upd (upd (upd H n (exd n [(f, y)])) a (exo a C (some n))) n (exd n [(g, z), (f, y)]))
theorem let_go {H : Hp} {a n : Addr} {o1 o2 o3 o4 o5 : HO} (ha : H a = none) (na : n ≠ a) : upd (del (upd (upd (upd (upd H a o1) n o2) a o3) n o4) a) n o5 = upd H n o5 := by
  funext b
  by_cases hb : b = n
  · rw [hb, upd_same, upd_same]
  · rw [upd_ne hb, upd_ne hb]
    by_cases hc : b = a
    · rw [hc, del_same, ha]
    · rw [del_ne hc, upd_ne hb, upd_ne hc, upd_ne hb, upd_ne hc]
theorem let_go1 {H : Hp} {a n : Addr} {o1 o2 o3 o5 : HO} (ha : H a = none) (na : n ≠ a) : upd (del (upd (upd (upd H a o1) n o2) a o3) a) n o5 = upd H n o5 := by
  funext b
  by_cases hb : b = n
  · rw [hb, upd_same, upd_same]
  · rw [upd_ne hb, upd_ne hb]
    by_cases hc : b = a
    · rw [hc, del_same, ha]
    · rw [del_ne hc, upd_ne hc, upd_ne hb, upd_ne hc]
theorem mkE1 {H : Hp} {C : Addr} {f : Str} {y : V} {Q : XK} (q : ∀ n, H n = none → Q (.ref C) (some n) (upd H n (.xd [(f, y)]))) : [y].length ≤ 1000 ∧ ∀ a, H a = none → spE1 C f (.ref a :: [y]) (upd H a (exo a C none))
    (fun v H2 => v = .non ∧ ∃ (n : Addr) (fs : List (Str × V)), H2 a = some (exo a C (some n)) ∧ H2 n = some (exd n fs) ∧ H n = none ∧ Q (.ref C) (some n) (upd (del H2 a) n (.xd fs))) (fun _ _ _ => False) := by
  refine ⟨Nat.le_of_ble_eq_true rfl, fun a ha => ⟨a, y, rfl, upd_same, fun n hn na => ⟨rfl, n, _, upd_same, by rw [upd_ne na, upd_same], ?_, ?_⟩⟩⟩
  · rw [upd_ne na] at hn; exact hn
  · rw [let_go1 ha na]
    exact q n (by rw [upd_ne na] at hn; exact hn)
theorem mkE2 {H : Hp} {C : Addr} {f g : Str} {y z : V} {Q : XK} (q : ∀ n, H n = none → Q (.ref C) (some n) (upd H n (.xd [(g, z), (f, y)]))) : [y, z].length ≤ 1000 ∧ ∀ a, H a = none → spE2 C f g (.ref a :: [y, z]) (upd H a (exo a C none))
    (fun v H2 => v = .non ∧ ∃ (n : Addr) (fs : List (Str × V)), H2 a = some (exo a C (some n)) ∧ H2 n = some (exd n fs) ∧ H n = none ∧ Q (.ref C) (some n) (upd (del H2 a) n (.xd fs))) (fun _ _ _ => False) := by
  refine ⟨Nat.le_of_ble_eq_true rfl, fun a ha => ⟨a, y, z, rfl, upd_same, fun n hn na => ⟨rfl, n, _, by rw [upd_ne na.symm, upd_same], upd_same, ?_, ?_⟩⟩⟩
  · rw [upd_ne na] at hn; exact hn
  · rw [let_go ha na]
    exact q n (by rw [upd_ne na] at hn; exact hn)
end Hv
set_option Elab.async false
set_option linter.all false
set_option maxRecDepth 100000
set_option maxHeartbeats 4000000
namespace Hv
open PySem PySem.Spec PyProof.Rows L2
/-! ## zip over a dict's values or keys and a tuple -/
section
variable {prog : Program} {w : World} {κ : Type} [DecidableEq κ] {knd : PySem.KeyKind prog w κ} {A : Around} {E : Value → Shared → Prop} {s : Shared} {it d : Addr} {i ep : Nat} {kvs : List (κ × Value)} {Q : Value → Shared → Prop}
theorem next_val {k : κ} {v : Value} (hi : s.heap.IsValIter it d i kvs.length ep) (hm : s.heap.DictAt knd d kvs ep) (hx : kvs[i]? = some (k, v)) (hQ : ∀ x h2, x = v → h2.IsValIter it d (i + 1) kvs.length ep → Heap.SameBut it s.heap h2 → Q x { s with heap := h2 }) :
    wpAny (model prog w) A (Builtin.SmallTypes.nextOf (.ref it)) Q E s := by
  obtain ⟨o, ho, hc, hf⟩ := id hi ; obtain ⟨od, es, hod, hcd, hdd, hk, hp, hn⟩ := id hm
  have own : Builtin.Dict_items.ownsTuple "dict_valueiterator" = false := by decide
  have size : es.size = kvs.length := by rw [← hp.length]; simp
  unfold Builtin.SmallTypes.nextOf
  refine wpAny_bind (wpAny_callSpecial?_slot (name := Str.ofString "__next__") hi.typeIs F.slot_dict_valueiterator_next (wpAny_call_entry F.slot_dict_valueiterator_next hi.typeIs F.entry_dict_valueiterator_next ?_ (F.args_dict_valueiterator_next_1 _)))
  refine wpAny_bind (wpAny_pure (wpAny_bind (wpAny_bind ?_))) ; first | refine wpAny_bind (wpAny_typeNameOfWhole_valiter hi.typeIs (wpAny_pure ?_)) | refine wpAny_bind (wpAny_typeNameOf_valiter hi.typeIs (wpAny_pure ?_))
  refine wpAny_bind (wpAny_fieldsOf ho hf ?_) ; simp only [own, Bool.false_eq_true, if_false]
  show wpAny _ _ (if (Value.ref d == Value.none) = true then _ else _) _ _ s ; rw [if_neg (show ¬ ((Value.ref d == Value.none) = true) from Bool.false_ne_true)]
  refine wpAny_bind (wpAny_pure (wpAny_bind (wpAny_dictEntries hod hdd ?_))) ; rw [if_neg (by rw [size]; simp)]
  refine wpAny_bind (wpAny_pure (wpAny_bind (wpAny_dictEpoch hod hdd ?_))) ; rw [if_neg (by simp)]
  refine wpAny_pure ?_
  have lt : i < es.size := by rw [size]; exact (List.getElem?_eq_some_iff.mp hx).1
  have told := hp.get? (e := es[i]) (by simp [lt]) hx
  simp only [show ¬ ((i : Int) < 0) from by omega, if_false, Int.toNat_natCast, Array.getElem?_eq_getElem lt]
  refine wpAny_bind ?_ ; first | refine wpAny_bind (wpAny_typeNameOfWhole_valiter hi.typeIs (wpAny_pure ?_)) | refine wpAny_bind (wpAny_typeNameOf_valiter hi.typeIs (wpAny_pure ?_))
  refine wpAny_bind (wpAny_isOneOf_valiter hi.typeIs ?_)
  show wpAny _ _ (setField (.ref it) 1 (rawInt ((i : Int) + 1)) >>= _) _ _ s
  refine wpAny_bind (wpAny_setField ho hf (by simp) ?_)
  have hi2 : (s.heap.update it (Obj.mapFields (·.setIfInBounds 1 (rawInt ((i : Int) + 1))))).IsValIter it d (i + 1) kvs.length ep := ⟨_, Heap.get?_update_self _ ho (Obj.isFreed_of_fields (Obj.data_mapFields hf _)), (Obj.cls_mapFields ..).trans hc, by rw [Obj.data_mapFields hf]; simp [rawInt]⟩
  refine wpAny_bind (wpAny_holding ?_)
  refine wpAny_bind (wpAny_isOneOf_valiter (s := { s with heap := s.heap.update it (Obj.mapFields (·.setIfInBounds 1 (rawInt ((i : Int) + 1)))) }) hi2.typeIs ?_)
  refine wpAny_bind (wpAny_isOneOf_valiter (s := { s with heap := s.heap.update it (Obj.mapFields (·.setIfInBounds 1 (rawInt ((i : Int) + 1)))) }) hi2.typeIs ?_)
  show wpAny _ _ (pure es[i].val) _ _ _
  exact wpAny_pure (wpAny_pure ⟨_, rfl, wpAny_pure (hQ _ _ told.2 hi2 (Heap.SameBut.update ..))⟩)
theorem end_val (hh : A.handled = none) (hi : s.heap.IsValIter it d i kvs.length ep) (hm : s.heap.DictAt knd d kvs ep) (hx : kvs[i]? = none) (hE : ∀ h2 e, Heap.ExtBut it s.heap h2 → (∃ o, h2.get? e = some o ∧ o.cls = .type "StopIteration") → E (.ref e) { s with heap := h2 }) :
    wpAny (model prog w) A (Builtin.SmallTypes.nextOf (.ref it)) Q E s := by
  obtain ⟨o, ho, hc, hf⟩ := id hi ; obtain ⟨od, es, hod, hcd, hdd, hk, hp, hn⟩ := id hm
  have own : Builtin.Dict_items.ownsTuple "dict_valueiterator" = false := by decide
  have size : es.size = kvs.length := by rw [← hp.length]; simp
  unfold Builtin.SmallTypes.nextOf
  refine wpAny_bind (wpAny_callSpecial?_slot (name := Str.ofString "__next__") hi.typeIs F.slot_dict_valueiterator_next (wpAny_call_entry F.slot_dict_valueiterator_next hi.typeIs F.entry_dict_valueiterator_next ?_ (F.args_dict_valueiterator_next_1 _)))
  refine wpAny_bind (wpAny_pure (wpAny_bind (wpAny_bind ?_))) ; first | refine wpAny_bind (wpAny_typeNameOfWhole_valiter hi.typeIs (wpAny_pure ?_)) | refine wpAny_bind (wpAny_typeNameOf_valiter hi.typeIs (wpAny_pure ?_))
  refine wpAny_bind (wpAny_fieldsOf ho hf ?_) ; simp only [own, Bool.false_eq_true, if_false]
  show wpAny _ _ (if (Value.ref d == Value.none) = true then _ else _) _ _ s ; rw [if_neg (show ¬ ((Value.ref d == Value.none) = true) from Bool.false_ne_true)]
  refine wpAny_bind (wpAny_pure (wpAny_bind (wpAny_dictEntries hod hdd ?_))) ; rw [if_neg (by rw [size]; simp)]
  refine wpAny_bind (wpAny_pure (wpAny_bind (wpAny_dictEpoch hod hdd ?_))) ; rw [if_neg (by simp)]
  refine wpAny_pure ?_
  have past : es.size ≤ i := by rw [size]; simpa using hx
  simp only [show ¬ ((i : Int) < 0) from by omega, if_false, Int.toNat_natCast, Array.getElem?_eq_none past]
  refine wpAny_bind ?_ ; first | refine wpAny_bind (wpAny_typeNameOfWhole_valiter hi.typeIs (wpAny_pure ?_)) | refine wpAny_bind (wpAny_typeNameOf_valiter hi.typeIs (wpAny_pure ?_))
  show wpAny _ _ (setField (.ref it) 0 .none >>= _) _ _ s
  refine wpAny_bind (wpAny_setField ho hf (by simp) ?_)
  show wpAny _ _ (newExc (.type "StopIteration") [] >>= _) _ _ _
  refine wpAny_bind ?_ ; simp only [newExc, newTuple]
  refine wpAny_bind (wpAny_newObj_type (wpAny_bind (m := firstArgMember _ _) (wpAny_of_eq (a := Value.none) (by first | rfl | (simp only [firstArgMember]; rfl)) (wpAny_newObj_type ?_ (by size_fits)))) (by size_fits))
  simp only [raiseNew] ; refine wpAny_bind (wpAny_handled ?_)
  first | rw [show A.in1.handled = none from hh] | rw [hh]
  exact wpAny_bind (wpAny_pure (wpAny_throw (hE _ _ (((Heap.SameBut.update ..).extBut.push _).push _) ⟨_, Heap.get?_push_size _ rfl, rfl⟩)))
theorem next_key {k : κ} {v : Value} (hi : s.heap.IsKeyIter it d i kvs.length ep) (hm : s.heap.DictAt knd d kvs ep) (hx : kvs[i]? = some (k, v)) (hQ : ∀ x h2, knd.is k x = true → h2.IsKeyIter it d (i + 1) kvs.length ep → Heap.SameBut it s.heap h2 → Q x { s with heap := h2 }) :
    wpAny (model prog w) A (Builtin.SmallTypes.nextOf (.ref it)) Q E s := by
  obtain ⟨o, ho, hc, hf⟩ := id hi ; obtain ⟨od, es, hod, hcd, hdd, hk, hp, hn⟩ := id hm
  have own : Builtin.Dict_items.ownsTuple "dict_keyiterator" = false := by decide
  have size : es.size = kvs.length := by rw [← hp.length]; simp
  unfold Builtin.SmallTypes.nextOf
  refine wpAny_bind (wpAny_callSpecial?_slot (name := Str.ofString "__next__") hi.typeIs F.slot_dict_keyiterator_next (wpAny_call_entry F.slot_dict_keyiterator_next hi.typeIs F.entry_dict_keyiterator_next ?_ (F.args_dict_keyiterator_next_1 _)))
  refine wpAny_bind (wpAny_pure (wpAny_bind (wpAny_bind ?_))) ; first | refine wpAny_bind (wpAny_typeNameOfWhole_keyiter hi.typeIs (wpAny_pure ?_)) | refine wpAny_bind (wpAny_typeNameOf_keyiter hi.typeIs (wpAny_pure ?_))
  refine wpAny_bind (wpAny_fieldsOf ho hf ?_) ; simp only [own, Bool.false_eq_true, if_false]
  show wpAny _ _ (if (Value.ref d == Value.none) = true then _ else _) _ _ s ; rw [if_neg (show ¬ ((Value.ref d == Value.none) = true) from Bool.false_ne_true)]
  refine wpAny_bind (wpAny_pure (wpAny_bind (wpAny_dictEntries hod hdd ?_))) ; rw [if_neg (by rw [size]; simp)]
  refine wpAny_bind (wpAny_pure (wpAny_bind (wpAny_dictEpoch hod hdd ?_))) ; rw [if_neg (by simp)]
  refine wpAny_pure ?_
  have lt : i < es.size := by rw [size]; exact (List.getElem?_eq_some_iff.mp hx).1
  have told := hp.get? (e := es[i]) (by simp [lt]) hx
  simp only [show ¬ ((i : Int) < 0) from by omega, if_false, Int.toNat_natCast, Array.getElem?_eq_getElem lt]
  refine wpAny_bind ?_ ; first | refine wpAny_bind (wpAny_typeNameOfWhole_keyiter hi.typeIs (wpAny_pure ?_)) | refine wpAny_bind (wpAny_typeNameOf_keyiter hi.typeIs (wpAny_pure ?_))
  refine wpAny_bind (wpAny_isOneOf_keyiter hi.typeIs ?_)
  show wpAny _ _ (setField (.ref it) 1 (rawInt ((i : Int) + 1)) >>= _) _ _ s
  refine wpAny_bind (wpAny_setField ho hf (by simp) ?_)
  have hi2 : (s.heap.update it (Obj.mapFields (·.setIfInBounds 1 (rawInt ((i : Int) + 1))))).IsKeyIter it d (i + 1) kvs.length ep := ⟨_, Heap.get?_update_self _ ho (Obj.isFreed_of_fields (Obj.data_mapFields hf _)), (Obj.cls_mapFields ..).trans hc, by rw [Obj.data_mapFields hf]; simp [rawInt]⟩
  refine wpAny_bind (wpAny_holding ?_)
  refine wpAny_bind (wpAny_isOneOf_keyiter (s := { s with heap := s.heap.update it (Obj.mapFields (·.setIfInBounds 1 (rawInt ((i : Int) + 1)))) }) hi2.typeIs ?_)
  show wpAny _ _ (pure es[i].key) _ _ _
  exact wpAny_pure (wpAny_pure ⟨_, rfl, wpAny_pure (hQ _ _ told.1 hi2 (Heap.SameBut.update ..))⟩)
theorem end_key (hh : A.handled = none) (hi : s.heap.IsKeyIter it d i kvs.length ep) (hm : s.heap.DictAt knd d kvs ep) (hx : kvs[i]? = none) (hE : ∀ h2 e, Heap.ExtBut it s.heap h2 → (∃ o, h2.get? e = some o ∧ o.cls = .type "StopIteration") → E (.ref e) { s with heap := h2 }) :
    wpAny (model prog w) A (Builtin.SmallTypes.nextOf (.ref it)) Q E s := by
  obtain ⟨o, ho, hc, hf⟩ := id hi ; obtain ⟨od, es, hod, hcd, hdd, hk, hp, hn⟩ := id hm
  have own : Builtin.Dict_items.ownsTuple "dict_keyiterator" = false := by decide
  have size : es.size = kvs.length := by rw [← hp.length]; simp
  unfold Builtin.SmallTypes.nextOf
  refine wpAny_bind (wpAny_callSpecial?_slot (name := Str.ofString "__next__") hi.typeIs F.slot_dict_keyiterator_next (wpAny_call_entry F.slot_dict_keyiterator_next hi.typeIs F.entry_dict_keyiterator_next ?_ (F.args_dict_keyiterator_next_1 _)))
  refine wpAny_bind (wpAny_pure (wpAny_bind (wpAny_bind ?_))) ; first | refine wpAny_bind (wpAny_typeNameOfWhole_keyiter hi.typeIs (wpAny_pure ?_)) | refine wpAny_bind (wpAny_typeNameOf_keyiter hi.typeIs (wpAny_pure ?_))
  refine wpAny_bind (wpAny_fieldsOf ho hf ?_) ; simp only [own, Bool.false_eq_true, if_false]
  show wpAny _ _ (if (Value.ref d == Value.none) = true then _ else _) _ _ s ; rw [if_neg (show ¬ ((Value.ref d == Value.none) = true) from Bool.false_ne_true)]
  refine wpAny_bind (wpAny_pure (wpAny_bind (wpAny_dictEntries hod hdd ?_))) ; rw [if_neg (by rw [size]; simp)]
  refine wpAny_bind (wpAny_pure (wpAny_bind (wpAny_dictEpoch hod hdd ?_))) ; rw [if_neg (by simp)]
  refine wpAny_pure ?_
  have past : es.size ≤ i := by rw [size]; simpa using hx
  simp only [show ¬ ((i : Int) < 0) from by omega, if_false, Int.toNat_natCast, Array.getElem?_eq_none past]
  refine wpAny_bind ?_ ; first | refine wpAny_bind (wpAny_typeNameOfWhole_keyiter hi.typeIs (wpAny_pure ?_)) | refine wpAny_bind (wpAny_typeNameOf_keyiter hi.typeIs (wpAny_pure ?_))
  show wpAny _ _ (setField (.ref it) 0 .none >>= _) _ _ s
  refine wpAny_bind (wpAny_setField ho hf (by simp) ?_)
  show wpAny _ _ (newExc (.type "StopIteration") [] >>= _) _ _ _
  refine wpAny_bind ?_ ; simp only [newExc, newTuple]
  refine wpAny_bind (wpAny_newObj_type (wpAny_bind (m := firstArgMember _ _) (wpAny_of_eq (a := Value.none) (by first | rfl | (simp only [firstArgMember]; rfl)) (wpAny_newObj_type ?_ (by size_fits)))) (by size_fits))
  simp only [raiseNew] ; refine wpAny_bind (wpAny_handled ?_)
  first | rw [show A.in1.handled = none from hh] | rw [hh]
  exact wpAny_bind (wpAny_pure (wpAny_throw (hE _ _ (((Heap.SameBut.update ..).extBut.push _).push _) ⟨_, Heap.get?_push_size _ rfl, rfl⟩)))
end
/-! ## as an iterator of the hand layer -/
/-- zip of the values (or keys) of the locked dict at d and the tuple at b, of one length -/
def ItzD (K : PySem.W.Frag) (val : Bool) (d : Addr) (o : Obj) (kvs : List (Key × V)) (b : Addr) : It :=
  ⟨fun i H => H d = some (.frz o (.dK kvs)) ∧ i < kvs.length ∧ ∃ ys, SqT K H b ys ∧ ys.length = kvs.length,
    fun i H v H2 => ∃ T k x y, v = .ref T ∧ kvs[i]? = some (k, x) ∧ H T = none ∧ H2 = upd H T (.tup [if val = true then x else kV k, y]) ∧ ∀ ys, SqT K H b ys → ys[i]? = some y,
    fun i H => H d = some (.frz o (.dK kvs)) ∧ kvs.length ≤ i ∧ ∃ ys, SqT K H b ys ∧ ys.length = kvs.length⟩
section
variable {prog : Program} {w : World} {κ : Type} [DecidableEq κ] {knd : PySem.KeyKind prog w κ} {A : Around} {it d : Addr} {ep : Nat} {kvs : List (κ × Value)}
theorem draws_vals (hh : A.handled = none) (ne : d ≠ it) : Draws prog w A it [it, d] kvs.length (fun i x => ∃ k, kvs[i]? = some (k, x)) (fun i h => h.IsValIter it d i kvs.length ep ∧ h.DictAt knd d kvs ep) where
  live := fun _ _ st => let ⟨o, ho, _⟩ := st.1; ⟨o, ho⟩
  frame := fun _ _ _ st k => ⟨st.1.at fun o e => k it (by simp) o e, st.2.at' fun o e => k d (by simp) o e⟩
  item := fun i s Q E lt st hQ => by
    have hx : kvs[i]? = some (kvs[i].1, kvs[i].2) := List.getElem?_eq_getElem lt
    exact next_val st.1 st.2 hx fun x h2 e hi same => hQ x h2 s.toks ⟨_, e ▸ hx⟩ ⟨hi, st.2.at' fun o q => same.extBut d o ne q⟩ same
  done := fun s Q E st hE => end_val hh st.1 st.2 (List.getElem?_eq_none (Nat.le_refl _)) hE
theorem draws_keys (hh : A.handled = none) (ne : d ≠ it) : Draws prog w A it [it, d] kvs.length (fun i x => ∃ k v, kvs[i]? = some (k, v) ∧ knd.is k x = true) (fun i h => h.IsKeyIter it d i kvs.length ep ∧ h.DictAt knd d kvs ep) where
  live := fun _ _ st => let ⟨o, ho, _⟩ := st.1; ⟨o, ho⟩
  frame := fun _ _ _ st k => ⟨let ⟨o, ho, r⟩ := st.1; ⟨o, k it (by simp) o ho, r⟩, st.2.at' fun o e => k d (by simp) o e⟩
  item := fun i s Q E lt st hQ => by
    have hx : kvs[i]? = some (kvs[i].1, kvs[i].2) := List.getElem?_eq_getElem lt
    exact next_key st.1 st.2 hx fun x h2 e hi same => hQ x h2 s.toks ⟨_, _, hx, e⟩ ⟨hi, st.2.at' fun o q => same.extBut d o ne q⟩ same
  done := fun s Q E st hE => end_key hh st.1 st.2 (List.getElem?_eq_none (Nat.le_refl _)) hE
end
theorem turn_zvals {P : Program} {w : World} {K : PySem.W.Frag} {elts : List Expr} {kk : Nat} {tpos : Pos} {z TI TO i1 i2 d b : Addr} {o : Obj} {es : Array DictEntry} {ep : Nat} {kvs : List (Key × V)} (S : ZipSep2 z TI TO i1 i2 [i1, d] [i2, b]) (hod : o.data = .dict es ep) (n1 : d ≠ i1) (n2 : b ≠ i2) :
    Turn P w K (.Tuple elts kk tpos) (ItzD K true d o kvs b) [z, TI, TO, i1, i2] z
      (fun i h => IsZip h z TI TO .none ∧ IsTupOf2 h TI (.ref i1) (.ref i2) ∧ (∃ a1 a2, IsTupOf2 h TO a1 a2) ∧ h.IsValIter i1 d i kvs.length ep ∧ h.IsTupleIter i2 b i ∧ i ≤ kvs.length) where
  mem := by simp
  obj := fun i h st c hc => by
    obtain ⟨hz, hI, ⟨x, y, hO⟩, ⟨o1, e1, _, d1⟩, ⟨o2, e2, _, d2⟩, _⟩ := st
    have : c = z ∨ c = TI ∨ c = TO ∨ c = i1 ∨ c = i2 := by simpa using hc
    rcases this with q | q | q | q | q <;> rw [q]
    · exact ⟨_, hz, fun v q => nomatch q⟩
    · exact ⟨_, hI, fun v q => nomatch q⟩
    · exact ⟨_, hO, fun v q => nomatch q⟩
    · exact ⟨o1, e1, fun v q => by rw [d1] at q; cases q⟩
    · exact ⟨o2, e2, fun v q => by rw [d2] at q; cases q⟩
  keep := fun i h h2 st k => by
    obtain ⟨hz, hI, ⟨x, y, hO⟩, ⟨o1, e1, r1⟩, ⟨o2, e2, r2⟩, le⟩ := st
    exact ⟨k z (by simp) _ hz, k TI (by simp) _ hI, ⟨x, y, k TO (by simp) _ hO⟩, ⟨o1, k i1 (by simp) o1 e1, r1⟩, ⟨o2, k i2 (by simp) o2 e2, r2⟩, le⟩
  item := by
    intro X hP hw hK hc i pins s σ H E I hf st hg
    subst hP hw hK
    obtain ⟨hz, hI, hO, h1, h2, le⟩ := st
    obtain ⟨hd, lt, ys, hys, hl⟩ := hg
    obtain ⟨_, hgd, _, es2, ep2, vs, hdt, hsz, kv, hm⟩ := I.frzK hd
    obtain ⟨rfl, rfl⟩ := dict_ep hod hdt
    obtain ⟨its, rv, p, _⟩ := I.tuple hys
    have lv : kvs.length = vs.length := Paired.length kv
    have li : its.toArray.size = vs.length := by rw [List.size_toArray, ← rv.length, hl, lv]
    have hh : X.A.in1.handled = none := I.ok.hd hc
    have W := GoesN.zip2 (prog := X.prog) (w := X.w) (A := X.A) (elts := elts) (x1 := kk) (pos := tpos) S (draws_vals (knd := mixKind X.prog X.w) (kvs := vs) (ep := ep2) hh n1) (Draws.tuple (prog := X.prog) (w := X.w) hh i2 b n2 its.toArray)
    rw [lv] at h1
    refine W.goes i s _ E (by rw [li, Nat.min_self, ← lv]; exact lt) ⟨hz, hI, hO, ⟨h1, hm⟩, ⟨h2, p⟩⟩ fun u h3 tk Y st3 hk _ => ?_
    obtain ⟨T, x, y, rfl, hT, hx, hy, hp⟩ := Y
    obtain ⟨⟨k0, v0⟩, hkv⟩ : ∃ q, kvs[i]? = some q := ⟨kvs[i], List.getElem?_eq_getElem lt⟩
    obtain ⟨u0, hu0, ru0⟩ := kv_get kv hkv
    have ly : i < ys.length := by rw [hl]; exact lt
    obtain ⟨u1, hu1, ru1⟩ := rv.get (List.getElem?_eq_getElem ly)
    have ey : y = u1 := by
      have q : its[i]? = some y := by simpa using hy
      rw [hu1] at q; exact (Option.some.inj q).symm
    have rx : RelV v0 x := by
      obtain ⟨k2, e2⟩ := hx
      rw [hu0] at e2; cases e2; exact ru0
    have nH : H T = none := I.hok.fresh hT
    obtain ⟨oT, eT, cT, nT, dT⟩ := id hp
    have new : ObjOk X.prog X.w (upd H T (.tup [if true = true then v0 else kV k0, ys[i]])) h3 T (.tup [if true = true then v0 else kV k0, ys[i]]) := ⟨by show 2 ≤ sizeLine; decide, [x, y], .cons rx (.cons (ey ▸ ru1) .nil), hp⟩
    have J : Inv X pins σ (upd H T (.tup [if true = true then v0 else kV k0, ys[i]])) { s with heap := h3, toks := tk } :=
      I.turnedNew (t' := tk) (ch := [z, TI, TO, i1, i2]) (fun c q hb e => hk c q (fun q' => hb (by simp at q' ⊢; rcases q' with q' | q' | q' | q' <;> simp [q'])) e) hf hT new
    refine ⟨.ref T, _, J, rfl, ⟨T, k0, v0, ys[i], rfl, hkv, nH, rfl, fun ys2 h => by rw [I.tuple_inj h hys]; exact List.getElem?_eq_getElem ly⟩, ?_, fun c hcm => ?_⟩
    · obtain ⟨z3, I3, O3, v3, t3⟩ := st3
      rw [← lv] at v3
      exact ⟨z3, I3, O3, v3.1, t3.1, lt⟩
    · have live : ∃ q, s.heap.get? c = some q := by
        have : c = z ∨ c = TI ∨ c = TO ∨ c = i1 ∨ c = i2 := by simpa using hcm
        rcases this with q | q | q | q | q <;> rw [q]
        · exact ⟨_, hz⟩
        · exact ⟨_, hI⟩
        · obtain ⟨_, _, e⟩ := hO; exact ⟨_, e⟩
        · obtain ⟨_, e, _⟩ := h1; exact ⟨_, e⟩
        · obtain ⟨_, e, _⟩ := h2; exact ⟨_, e⟩
      obtain ⟨q, e⟩ := live
      rw [upd_ne (Nat.ne_of_lt (Nat.lt_of_lt_of_le (Heap.lt_size e) hT))]
      exact (hf c hcm).1
  done := by
    intro X hP hw hK hc i pins s σ H E I hf st hg
    subst hP hw hK
    obtain ⟨hz, hI, hO, h1, h2, le⟩ := st
    obtain ⟨hd, ge, ys, hys, hl⟩ := hg
    obtain ⟨_, hgd, _, es2, ep2, vs, hdt, hsz, kv, hm⟩ := I.frzK hd
    obtain ⟨rfl, rfl⟩ := dict_ep hod hdt
    obtain ⟨its, rv, p, _⟩ := I.tuple hys
    have lv : kvs.length = vs.length := Paired.length kv
    have li : its.toArray.size = vs.length := by rw [List.size_toArray, ← rv.length, hl, lv]
    have hh : X.A.in1.handled = none := I.ok.hd hc
    have W := GoesN.zip2 (prog := X.prog) (w := X.w) (A := X.A) (elts := elts) (x1 := kk) (pos := tpos) S (draws_vals (knd := mixKind X.prog X.w) (kvs := vs) (ep := ep2) hh n1) (Draws.tuple (prog := X.prog) (w := X.w) hh i2 b n2 its.toArray)
    have ei : i = min vs.length its.toArray.size := by rw [li, Nat.min_self]; omega
    rw [lv] at h1
    refine W.stops s _ E (ei ▸ ⟨hz, hI, hO, ⟨h1, hm⟩, ⟨h2, p⟩⟩) fun h3 tk hk _ => ?_
    exact I.turnedL (t' := tk) (ch := [z, TI, TO, i1, i2]) (fun c q hb e => hk c q (fun q' => hb (by simp at q' ⊢; rcases q' with q' | q' | q' | q' <;> simp [q'])) e) hf
  self := fun A i s Q E st h => wpAny_pyIter_zip st.1 h
theorem turn_zkeys {P : Program} {w : World} {K : PySem.W.Frag} {elts : List Expr} {kk : Nat} {tpos : Pos} {z TI TO i1 i2 d b : Addr} {o : Obj} {es : Array DictEntry} {ep : Nat} {kvs : List (Key × V)} (S : ZipSep2 z TI TO i1 i2 [i1, d] [i2, b]) (hod : o.data = .dict es ep) (n1 : d ≠ i1) (n2 : b ≠ i2) :
    Turn P w K (.Tuple elts kk tpos) (ItzD K false d o kvs b) [z, TI, TO, i1, i2] z
      (fun i h => IsZip h z TI TO .none ∧ IsTupOf2 h TI (.ref i1) (.ref i2) ∧ (∃ a1 a2, IsTupOf2 h TO a1 a2) ∧ h.IsKeyIter i1 d i kvs.length ep ∧ h.IsTupleIter i2 b i ∧ i ≤ kvs.length) where
  mem := by simp
  obj := fun i h st c hc => by
    obtain ⟨hz, hI, ⟨x, y, hO⟩, ⟨o1, e1, _, d1⟩, ⟨o2, e2, _, d2⟩, _⟩ := st
    have : c = z ∨ c = TI ∨ c = TO ∨ c = i1 ∨ c = i2 := by simpa using hc
    rcases this with q | q | q | q | q <;> rw [q]
    · exact ⟨_, hz, fun v q => nomatch q⟩
    · exact ⟨_, hI, fun v q => nomatch q⟩
    · exact ⟨_, hO, fun v q => nomatch q⟩
    · exact ⟨o1, e1, fun v q => by rw [d1] at q; cases q⟩
    · exact ⟨o2, e2, fun v q => by rw [d2] at q; cases q⟩
  keep := fun i h h2 st k => by
    obtain ⟨hz, hI, ⟨x, y, hO⟩, ⟨o1, e1, r1⟩, ⟨o2, e2, r2⟩, le⟩ := st
    exact ⟨k z (by simp) _ hz, k TI (by simp) _ hI, ⟨x, y, k TO (by simp) _ hO⟩, ⟨o1, k i1 (by simp) o1 e1, r1⟩, ⟨o2, k i2 (by simp) o2 e2, r2⟩, le⟩
  item := by
    intro X hP hw hK hc i pins s σ H E I hf st hg
    subst hP hw hK
    obtain ⟨hz, hI, hO, h1, h2, le⟩ := st
    obtain ⟨hd, lt, ys, hys, hl⟩ := hg
    obtain ⟨_, hgd, _, es2, ep2, vs, hdt, hsz, kv, hm⟩ := I.frzK hd
    obtain ⟨rfl, rfl⟩ := dict_ep hod hdt
    obtain ⟨its, rv, p, _⟩ := I.tuple hys
    have lv : kvs.length = vs.length := Paired.length kv
    have li : its.toArray.size = vs.length := by rw [List.size_toArray, ← rv.length, hl, lv]
    have hh : X.A.in1.handled = none := I.ok.hd hc
    have W := GoesN.zip2 (prog := X.prog) (w := X.w) (A := X.A) (elts := elts) (x1 := kk) (pos := tpos) S (draws_keys (knd := mixKind X.prog X.w) (kvs := vs) (ep := ep2) hh n1) (Draws.tuple (prog := X.prog) (w := X.w) hh i2 b n2 its.toArray)
    rw [lv] at h1
    refine W.goes i s _ E (by rw [li, Nat.min_self, ← lv]; exact lt) ⟨hz, hI, hO, ⟨h1, hm⟩, ⟨h2, p⟩⟩ fun u h3 tk Y st3 hk _ => ?_
    obtain ⟨T, x, y, rfl, hT, hx, hy, hp⟩ := Y
    obtain ⟨⟨k0, v0⟩, hkv⟩ : ∃ q, kvs[i]? = some q := ⟨kvs[i], List.getElem?_eq_getElem lt⟩
    obtain ⟨u0, hu0, ru0⟩ := kv_get kv hkv
    have ly : i < ys.length := by rw [hl]; exact lt
    obtain ⟨u1, hu1, ru1⟩ := rv.get (List.getElem?_eq_getElem ly)
    have ey : y = u1 := by
      have q : its[i]? = some y := by simpa using hy
      rw [hu1] at q; exact (Option.some.inj q).symm
    have rx : RelV (kV k0) x := by
      obtain ⟨k2, v2, e2, e3⟩ := hx
      rw [hu0] at e2; cases e2; exact relV_key (show keyIs k0 x = true from e3)
    have nH : H T = none := I.hok.fresh hT
    obtain ⟨oT, eT, cT, nT, dT⟩ := id hp
    have new : ObjOk X.prog X.w (upd H T (.tup [if false = true then v0 else kV k0, ys[i]])) h3 T (.tup [if false = true then v0 else kV k0, ys[i]]) := ⟨by show 2 ≤ sizeLine; decide, [x, y], .cons rx (.cons (ey ▸ ru1) .nil), hp⟩
    have J : Inv X pins σ (upd H T (.tup [if false = true then v0 else kV k0, ys[i]])) { s with heap := h3, toks := tk } :=
      I.turnedNew (t' := tk) (ch := [z, TI, TO, i1, i2]) (fun c q hb e => hk c q (fun q' => hb (by simp at q' ⊢; rcases q' with q' | q' | q' | q' <;> simp [q'])) e) hf hT new
    refine ⟨.ref T, _, J, rfl, ⟨T, k0, v0, ys[i], rfl, hkv, nH, rfl, fun ys2 h => by rw [I.tuple_inj h hys]; exact List.getElem?_eq_getElem ly⟩, ?_, fun c hcm => ?_⟩
    · obtain ⟨z3, I3, O3, v3, t3⟩ := st3
      rw [← lv] at v3
      exact ⟨z3, I3, O3, v3.1, t3.1, lt⟩
    · have live : ∃ q, s.heap.get? c = some q := by
        have : c = z ∨ c = TI ∨ c = TO ∨ c = i1 ∨ c = i2 := by simpa using hcm
        rcases this with q | q | q | q | q <;> rw [q]
        · exact ⟨_, hz⟩
        · exact ⟨_, hI⟩
        · obtain ⟨_, _, e⟩ := hO; exact ⟨_, e⟩
        · obtain ⟨_, e, _⟩ := h1; exact ⟨_, e⟩
        · obtain ⟨_, e, _⟩ := h2; exact ⟨_, e⟩
      obtain ⟨q, e⟩ := live
      rw [upd_ne (Nat.ne_of_lt (Nat.lt_of_lt_of_le (Heap.lt_size e) hT))]
      exact (hf c hcm).1
  done := by
    intro X hP hw hK hc i pins s σ H E I hf st hg
    subst hP hw hK
    obtain ⟨hz, hI, hO, h1, h2, le⟩ := st
    obtain ⟨hd, ge, ys, hys, hl⟩ := hg
    obtain ⟨_, hgd, _, es2, ep2, vs, hdt, hsz, kv, hm⟩ := I.frzK hd
    obtain ⟨rfl, rfl⟩ := dict_ep hod hdt
    obtain ⟨its, rv, p, _⟩ := I.tuple hys
    have lv : kvs.length = vs.length := Paired.length kv
    have li : its.toArray.size = vs.length := by rw [List.size_toArray, ← rv.length, hl, lv]
    have hh : X.A.in1.handled = none := I.ok.hd hc
    have W := GoesN.zip2 (prog := X.prog) (w := X.w) (A := X.A) (elts := elts) (x1 := kk) (pos := tpos) S (draws_keys (knd := mixKind X.prog X.w) (kvs := vs) (ep := ep2) hh n1) (Draws.tuple (prog := X.prog) (w := X.w) hh i2 b n2 its.toArray)
    have ei : i = min vs.length its.toArray.size := by rw [li, Nat.min_self]; omega
    rw [lv] at h1
    refine W.stops s _ E (ei ▸ ⟨hz, hI, hO, ⟨h1, hm⟩, ⟨h2, p⟩⟩) fun h3 tk hk _ => ?_
    exact I.turnedL (t' := tk) (ch := [z, TI, TO, i1, i2]) (fun c q hb e => hk c q (fun q' => hb (by simp at q' ⊢; rcases q' with q' | q' | q' | q' <;> simp [q'])) e) hf
  self := fun A i s Q E st h => wpAny_pyIter_zip st.1 h
theorem begins_vals (v d : Addr) (es : Array DictEntry) (ep : Nat) : Begins (.ref v) { cls := .type "dict_valueiterator", data := .fields #[.ref d, .int 0 0, .int es.size 0, .int ep 0] } (fun h => h.IsValuesView v d ∧ h.DictRaw d es ep) where
  iter := fun prog w A E s Q hh hq => wpAny_pyIter_values_raw hh.1 hh.2 hq
  keeps := fun h h2 x k => ⟨let ⟨o, e, r⟩ := x.1; ⟨o, k v o e, r⟩, x.2.at fun o e => k d o e⟩
  free := rfl
theorem begins_dict (d : Addr) (hd : (d == sysModules) = false) (es : Array DictEntry) (ep : Nat) : Begins (.ref d) { cls := .type "dict_keyiterator", data := .fields #[.ref d, .int 0 0, .int es.size 0, .int ep 0] } (fun h => h.DictRaw d es ep) where
  iter := fun prog w A E s Q hh hq => wpAny_pyIter_dict_raw hd hh hq
  keeps := fun h h2 x k => x.at fun o e => k d o e
  free := rfl
/-- e.values() as a value -/
def tVals (te : TE) : TE := fun σ H Q => te σ H fun x H1 => ∃ d kvs, x = .ref d ∧ Rd H1 d (.dK kvs) ∧ ∀ p, H1 p = none → Q (.ref p) (upd H1 p (viewO "dict_values" p d))
/-- zip(the values of a dict that is locked, a tuple) -/
def iZipV (K : PySem.W.Frag) (ta : TA) : TI := fun σ H R => ta σ H fun vs H1 => ∃ v d o kvs b ys, vs = [.ref v, .ref b] ∧ H1 v = some (viewO "dict_values" v d) ∧ H1 d = some (.frz o (.dK kvs)) ∧ SqT K H1 b ys ∧ ys.length = kvs.length ∧ R (ItzD K true d o kvs b) H1
/-- zip(a dict that is locked, a tuple) -/
def iZipK (K : PySem.W.Frag) (ta : TA) : TI := fun σ H R => ta σ H fun vs H1 => ∃ d o kvs b ys, vs = [.ref d, .ref b] ∧ H1 d = some (.frz o (.dK kvs)) ∧ SqT K H1 b ys ∧ ys.length = kvs.length ∧ R (ItzD K false d o kvs b) H1
section
variable {X : Cx} {e e2 : Expr} {te : TE} {ta : TA} {p pos tpos apos cpos : Pos} {elts : List Expr} {kk : Nat}
theorem pe_vals (he : PE X e te) (hbase : attributeBase e "values" X.env (eval e X.env) = eval e X.env := by rfl) (hline : (apos.endLine == cpos.line) = true := by rfl) : PE X (.Call (.Attribute e "values" apos) [] [] cpos) (tVals te) := by
  refine ⟨fun pins s σ H Q I h => wpAny_Call_method (T := "dict") (id := "dict.values") hbase rfl hline F.plainAttrs_dict F.slot_dict_values F.type_dict_values (thn (he.run pins s σ H _ I h) fun u s1 ⟨x, H1, I1, rx, d, kvs, ex, hd, q⟩ => ?_)⟩
  subst ex
  obtain rfl : u = Value.ref d := rx
  obtain ⟨_, lo, vs, kv, dd⟩ := dk_rd I1.hok hd
  refine ⟨dd.typeIs, dd.mapOf.noDict, ?_⟩
  have J : Inv X pins σ (upd H1 s1.heap.objs.size (viewO "dict_values" s1.heap.objs.size d)) { s1 with heap := s1.heap.push { cls := .type "dict_values", data := .fields #[.ref d] } } :=
    I1.laid (t' := s1.toks) (fun b o z => Heap.get?_push_of_some _ z) (Nat.le_refl _) (viewO_ok (Heap.get?_push_size _ rfl))
  have fin : EP X pins σ Q (.ref s1.heap.objs.size) { s1 with heap := s1.heap.push { cls := .type "dict_values", data := .fields #[.ref d] } } := ⟨.ref s1.heap.objs.size, _, J, rfl, q _ (I1.hok.fresh (Nat.le_refl _))⟩
  show wpAny (model X.prog X.w) X.A (callWith cpos (.builtin "dict.values") [.ref d] [] []) _ X.xe s1
  exact method_meetsIn F.slot_dict_values F.entry_dict_values rfl (PySem.evalArgs_none ⟨rfl, dd.typeIs, F.args_dict_values_1 _, _, meets_dict_values (mixKind X.prog X.w) d lo, ⟨vs, dd⟩, fin⟩)
theorem view_at {P : Program} {w : World} {H : Hp} {h : Heap} {v d : Addr} (ok : HOk P w H h) (e : H v = some (viewO "dict_values" v d)) : h.IsValuesView v d := by
  have x : ObjOk P w H h v (.ext fun h => h.get? v = some (DSub.viewOb "dict_values" d)) := ok v _ e
  exact ⟨_, x.1, rfl, rfl⟩
theorem five {N c : Nat} (h : c ∈ [N + 4, N + 2, N + 3, N, N + 1]) : N ≤ c := by
  have : c = N + 4 ∨ c = N + 2 ∨ c = N + 3 ∨ c = N ∨ c = N + 1 := by simpa using h
  omega
theorem pi_zipV (hg : Gl X "zip") (hm : X.mg "zip" = none) (ha : PA X [e, e2] ta) (hs : starEach [e, e2] X.env = (false, eval e X.env) :: starEach [e2] X.env := by rfl) (hpl : (backTo pos (starEach [e2] X.env)).any (·.1) = false := by rfl) :
    PI X (.Tuple elts kk tpos) (.Call (.Name "zip" p) [e, e2] [] pos) (iZipV X.K ta) := by
  refine ⟨fun pins s σ H R I h => Call_ (ld_blt I hg hm PyProof.Rows.boot_zip (PyProof.Rows.callWith_type1 (thn (ha.run pos pins s σ H _ I h) fun us s1 ⟨vs, H1, I1, r1, q1⟩ => ?_) hs hpl))⟩
  obtain ⟨v, d, o, kvs, b, ys, rfl, hv, hd, hb, hl, q⟩ := q1
  obtain ⟨u1, u2, rfl, e1, e3⟩ := vals2 r1
  cases e1 ; cases e3
  obtain ⟨_, at0, ex, es, ep, ws, hdt, hsz, kv, hm2⟩ := I1.frzK hd
  obtain ⟨its, rv, pt, _⟩ := I1.tuple hb
  obtain ⟨ob, hob, _⟩ := id pt
  have raw : s1.heap.DictRaw d es ep := ⟨o, at0, ex, hdt⟩
  have dlt := Heap.lt_size at0
  have blt := Heap.lt_size hob
  refine zip_begins2 (begins_vals v d es ep) (begins_tuple b its.toArray) ⟨view_at I1.hok hv, raw⟩ pt fun h2 hz hI hO h1 h3 hsz2 hk => wpAny_pyIter_zip hz ?_
  have S := zip_sep2 (N := s1.heap.objs.size) (fp1 := [d]) (fp2 := [b]) (by simpa using dlt) (by simpa using blt)
  refine ⟨s1.heap.objs.size + 4, [s1.heap.objs.size + 4, s1.heap.objs.size + 2, s1.heap.objs.size + 3, s1.heap.objs.size, s1.heap.objs.size + 1], _, _, H1, rfl, I1.kept (t' := s1.toks) hk, turn_zvals S hdt (Nat.ne_of_lt dlt) (Nat.ne_of_lt (Nat.lt_succ_of_lt blt)), ⟨hz, hI, ⟨_, _, hO⟩, ⟨_, h1, rfl, ?_⟩, ⟨_, h3, rfl, rfl⟩, Nat.zero_le _⟩,
    fun c hc => I1.fpOk (five hc) (I1.hok.fresh (five hc)), q⟩
  rw [hsz] <;> rfl
theorem pi_zipKD (hg : Gl X "zip") (hm : X.mg "zip" = none) (ha : PA X [e, e2] ta) (hs : starEach [e, e2] X.env = (false, eval e X.env) :: starEach [e2] X.env := by rfl) (hpl : (backTo pos (starEach [e2] X.env)).any (·.1) = false := by rfl) :
    PI X (.Tuple elts kk tpos) (.Call (.Name "zip" p) [e, e2] [] pos) (iZipK X.K ta) := by
  refine ⟨fun pins s σ H R I h => Call_ (ld_blt I hg hm PyProof.Rows.boot_zip (PyProof.Rows.callWith_type1 (thn (ha.run pos pins s σ H _ I h) fun us s1 ⟨vs, H1, I1, r1, q1⟩ => ?_) hs hpl))⟩
  obtain ⟨d, o, kvs, b, ys, rfl, hd, hb, hl, q⟩ := q1
  obtain ⟨u1, u2, rfl, e1, e3⟩ := vals2 r1
  cases e1 ; cases e3
  obtain ⟨hs2, at0, ex, es, ep, ws, hdt, hsz, kv, hm2⟩ := I1.frzK hd
  obtain ⟨its, rv, pt, _⟩ := I1.tuple hb
  obtain ⟨ob, hob, _⟩ := id pt
  have raw : s1.heap.DictRaw d es ep := ⟨o, at0, ex, hdt⟩
  have dlt := Heap.lt_size at0
  have blt := Heap.lt_size hob
  refine zip_begins2 (begins_dict d hs2 es ep) (begins_tuple b its.toArray) raw pt fun h2 hz hI hO h1 h3 hsz2 hk => wpAny_pyIter_zip hz ?_
  have S := zip_sep2 (N := s1.heap.objs.size) (fp1 := [d]) (fp2 := [b]) (by simpa using dlt) (by simpa using blt)
  refine ⟨s1.heap.objs.size + 4, [s1.heap.objs.size + 4, s1.heap.objs.size + 2, s1.heap.objs.size + 3, s1.heap.objs.size, s1.heap.objs.size + 1], _, _, H1, rfl, I1.kept (t' := s1.toks) hk, turn_zkeys S hdt (Nat.ne_of_lt dlt) (Nat.ne_of_lt (Nat.lt_succ_of_lt blt)), ⟨hz, hI, ⟨_, _, hO⟩, ⟨_, h1, rfl, ?_⟩, ⟨_, h3, rfl, rfl⟩, Nat.zero_le _⟩,
    fun c hc => I1.fpOk (five hc) (I1.hok.fresh (five hc)), q⟩
  rw [hsz] <;> rfl
end
/-! ## loops over it -/
section
variable {σ : L2.St} {H : Hp} {Q : VK} {K : PySem.W.Frag} {g : TG} {tt : TT} {tel : TE} {vs : List Nat} {tb : TS} {D : Ends} {val : Bool} {d b : Addr} {o : Obj} {kvs : List (Key × V)} {ys : List V}
theorem lcZipD (hl : ys.length = kvs.length) (Pv : Addr → Nat → Hp → Prop) (h0 : ∀ D, H D = none → Pv D 0 (upd H D (.lst []))) (hq : ∀ D i G, H D = none → Pv D i G → G d = some (.frz o (.dK kvs)) ∧ SqT K G b ys)
    (hs : ∀ D i k x y T G, H D = none → kvs[i]? = some (k, x) → ys[i]? = some y → Pv D i G → G T = none → LcTurn g tt tel vs σ D (.ref T) (upd G T (.tup [if val = true then x else kV k, y])) (Pv D (i + 1)))
    (hd : ∀ D G, H D = none → Pv D kvs.length G → Q (.ref D) G) : tLc (iK (ItzD K val d o kvs b)) g tt tel vs σ H Q := by
  intro D hD
  refine ⟨fun i m G => i + m = kvs.length ∧ Pv D i G, ⟨kvs.length, Nat.zero_add _, h0 D hD⟩, fun i m G ⟨im, pv⟩ => ?_⟩
  obtain ⟨q1, q2⟩ := hq D i G hD pv
  cases m with
  | zero =>
    obtain rfl : i = kvs.length := im
    exact .inl ⟨⟨q1, Nat.le_refl _, ys, q2, hl⟩, hd D G hD pv⟩
  | succ m =>
    refine .inr ⟨⟨q1, by omega, ys, q2, hl⟩, Pv D (i + 1), fun G2 p => ⟨m, Nat.lt_succ_self m, by omega, p⟩, fun x G2 yl => ?_⟩
    obtain ⟨T, k, x, y, rfl, hk, hT, rfl, e⟩ := yl
    exact hs D i k x y T G hD hk (e ys q2) pv hT
theorem forZipD (hl : ys.length = kvs.length) (Pv : Nat → L2.St → Hp → Prop) (h0 : Pv 0 σ H) (hq : ∀ i σ G, Pv i σ G → G d = some (.frz o (.dK kvs)) ∧ SqT K G b ys)
    (hs : ∀ i k x y T σ G, kvs[i]? = some (k, x) → ys[i]? = some y → Pv i σ G → G T = none → g (.ref T) σ (upd G T (.tup [if val = true then x else kV k, y])) fun σ2 H2 => tb { D with nx := Pv (i + 1), ct := Pv (i + 1), bk := D.nx } σ2 H2)
    (hd : ∀ σ G, Pv kvs.length σ G → D.nx σ G) : tFor (iK (ItzD K val d o kvs b)) g tb D σ H := by
  refine ⟨fun i m σ G => i + m = kvs.length ∧ Pv i σ G, ⟨kvs.length, Nat.zero_add _, h0⟩, fun i m σ G ⟨im, pv⟩ => ?_⟩
  obtain ⟨q1, q2⟩ := hq i σ G pv
  cases m with
  | zero =>
    obtain rfl : i = kvs.length := im
    exact .inl ⟨⟨q1, Nat.le_refl _, ys, q2, hl⟩, hd σ G pv⟩
  | succ m =>
    refine .inr ⟨⟨q1, by omega, ys, q2, hl⟩, Pv (i + 1), fun σ2 G2 p => ⟨m, Nat.lt_succ_self m, by omega, p⟩, fun x G2 yl => ?_⟩
    obtain ⟨T, k, x, y, rfl, hk, hT, rfl, e⟩ := yl
    exact hs i k x y T σ G hk (e ys q2) pv hT
theorem rdLcZV {ta : TA} (q : ta σ H fun vs' H1 => ∃ v d o kvs b ys, vs' = [.ref v, .ref b] ∧ H1 v = some (viewO "dict_values" v d) ∧ H1 d = some (.frz o (.dK kvs)) ∧ SqT K H1 b ys ∧ ys.length = kvs.length ∧ tLc (iK (ItzD K true d o kvs b)) g tt tel vs σ H1 Q) : tLc (iZipV K ta) g tt tel vs σ H Q := q
theorem rdLcZK {ta : TA} (q : ta σ H fun vs' H1 => ∃ d o kvs b ys, vs' = [.ref d, .ref b] ∧ H1 d = some (.frz o (.dK kvs)) ∧ SqT K H1 b ys ∧ ys.length = kvs.length ∧ tLc (iK (ItzD K false d o kvs b)) g tt tel vs σ H1 Q) : tLc (iZipK K ta) g tt tel vs σ H Q := q
/-- the dict at d is locked for an expression -/
theorem rdLockE {t : TE} {u : HO} (h : H d = some u) (m : Mut (some u)) (q : ∀ od, t σ (upd H d (.frz od u)) fun v H2 => H2 d = some (.frz od u) ∧ Q v (upd H2 d u)) : tLockE t σ H Q := ⟨d, u, h, m, q⟩
end
end Hv
set_option Elab.async false
set_option linter.all false
set_option maxRecDepth 100000
set_option maxHeartbeats 4000000
namespace Hv
open PySem PySem.Spec PyProof.Rows L2
/-! ## isinstance of a caught exception that has attributes -/
section
variable {prog : Program} {w : World} {A : Around} {E : Value → Shared → Prop} {s : Shared} {K : PySem.W.Frag} {x D : Addr} {ox od : Obj}
theorem class_of {Q : Option Value → Shared → Prop} (C : ExcC K D) (X : K.In s.heap) (I : PySem.W.InstAt s.heap x ox D (some od)) (h : Q (some (.ref D)) { s with toks := s.toks + 1 }) : wpAny (model prog w) A (getAttr? (.ref x) "__class__") Q E s := by
  have found : PySem.W.findObj K D (some od) "__class__" = some (.bind (.builtin "getset_descriptor.__get__") (.builtin "object.__class__")) := PySem.W.findObj_data (by obtain ⟨cd, e, _⟩ := PySem.W.any_some C.hd; rw [e]; rfl) C.ha C.hn C.ht
  obtain ⟨hp, g, dr, t, os⟩ := s
  have M0 := I.type (M := model prog w)
  have M1 := PySem.W.looks_findIn (M := model prog w) X C.hg
  have M2 := PySem.W.looks_findIn (M := model prog w) X C.hk
  have M3 := PySem.W.looks_find (M := model prog w) X I found
  have below : PySem.W.Looks (model prog w) hp (isInstance (.ref x) (.type "BaseException")) true := M0.andThen (PySem.W.looks_subIn X C.hs)
  have notObj : (Value.builtin "BaseException.__getattribute__" == Value.builtin "object.__getattribute__") = false := by decide +kernel
  have plain0 : (onTheHeap (Value.ref D) && Value.builtin "BaseException.__getattribute__" == Value.builtin "object.__getattribute__") = false := by rw [notObj]; rfl
  unfold getAttr? getAttrBy? getAttrBy
  refine wpAny_bind (wpAny_mkText (wpAny_bind (wpAny_attempt (wpAny_holding (wpAny_bind (M0.at (wpAny_bind (M1.at ?_)))))))) ; show wpAny (model prog w) A (if (onTheHeap (Value.ref D) && Value.builtin "BaseException.__getattribute__" == Value.builtin "object.__getattribute__") = true then _ else _) _ _ _ ; rw [plain0, if_neg Bool.false_ne_true]
  unfold getAttrByItsOwn hookBefore ; refine wpAny_bind ?_ ; rw [if_pos (show onTheHeap (Value.ref D) = true from rfl)] ; refine M2.at (wpAny_bind (wpAny_attempt (wpAny_holding ?_)))
  unfold callGetattribute ; rw [show (false && onTheHeap (Value.builtin "BaseException.__getattribute__")) = false from rfl, if_neg Bool.false_ne_true] ; unfold boundAndCalled ; rw [PySem.F.excAttr_ValueError.ga.bind (.ref x)]
  refine wpAny_bind (wpAny_pure ?_) ; show wpAny (model prog w) A (call (.builtin "BaseException.__getattribute__") [.ref x, .str "__class__" t]) _ _ _
  refine wpAny_call (codeAny_call_builtin PySem.F.excAttr_ValueError.ga.plain PySem.F.entry_bexc_ga (@PySem.W.check_slot (model prog w) _ _ ⟨hp, g, dr, t + 1, os⟩ "BaseException.__getattribute__" "BaseException" "__getattribute__" (.ref x) [.str "__class__" t] [] _ (by decide +kernel) (by decide +kernel) below (PySem.F.args_bexc_ga (.ref x) (.str "__class__" t)) ?_))
  unfold Builtin.«object.__getattribute__» ; refine wpAny_bind (wpAny_of_eq (a := ((Value.ref x : Value), [Value.str "__class__" t])) (by first | rfl | (simp only [slotArgs]; rfl)) (wpAny_bind (wpAny_pure (wpAny_bind (M0.at (wpAny_bind (M3.at ?_)))))))
  show wpAny (model prog w) _ (holding [Value.builtin "object.__class__"] (call (.builtin "getset_descriptor.__get__") [.builtin "object.__class__", .ref x, .ref D]) >>= ret) _ _ _
  refine wpAny_bind (wpAny_holding (wpAny_call (PySem.W.class_get (s := ⟨hp, g, dr, t + 1, os⟩) (ox := ox) (od := some od) X I C.hm (wpAny_pure ?_)))) ; show wpAny (model prog w) _ (handedOut (.ref D)) _ _ _ ; rw [PySem.W.handedOut_of (v := .ref D) rfl]
  first | exact wpAny_pure (wpAny_pure h) | exact wpAny_pure h | exact wpAny_pure (wpAny_bind (wpAny_pure (wpAny_pure h)))
theorem kit_caught (C : ExcC K D) : PySem.W.KitX K (.ref x) (.ref D) (fun h => PySem.W.InstAt h x ox D (some od)) where
  ty := fun _ _ _ I => I.type
  it := fun M h X _ => by
    obtain ⟨cd, e, _⟩ := PySem.W.any_some C.hd
    unfold PySem.W.clsIn at e
    split at e
    · rename_i c1 d1 cd1 sl1 there
      exact fun A2 Q2 E2 s2 k q => by unfold isType loadHead; exact wpAny_bind (wpAny_loadPart (k _ _ (X _ _ there)) (wpAny_pure q))
    · exact absurd e (by simp)
  ne := (PySem.W.handS_kitx_exc (x := x) (ox := ox) C.hg C.hk C.hs C.hd C.ha C.hn C.ht C.hm).ne
  ca := fun X I k => class_of C X I k
end
/-- isinstance(e, c), e the exception at a that the suite holds, its dict at n -/
def rIsX (K : PySem.W.Frag) (D a n : Addr) : List V → Hp → VK → Prop := fun xs H Q => ∃ (c : V) (cv : Value) (b : Bool) (fs : List (Str × V)), xs = [.ref a, c] ∧ ClsV c cv ∧ H n = some (.xd fs) ∧ PySem.W.kitOne K (.ref D) cv = some b ∧ Q (.bl b) H
theorem call_isX {X : Cx} {a D n : Addr} {oe : Obj} {pn : List (Addr × Obj)} (C : ExcC X.K D) (hz : Zc (.ref D) (some n) oe) (hf : ∃ vs, oe.data = .fields vs) : CallR (X.suite a ((a, oe) :: pn)) (.builtin "isinstance") (rIsX X.K D a n) := by
  intro pins s σ H xs us Q I r h
  obtain ⟨c, cv, b, fs, rfl, hc, hn, e, q⟩ := h
  obtain ⟨u1, u2, rfl, r1, r2⟩ := vals2 r
  cases r1
  obtain rfl := hc.eq r2
  obtain ⟨at0, _⟩ := I.pin (a, oe) (List.mem_append.mpr (.inl List.mem_cons_self))
  obtain ⟨vs, hv⟩ := hf
  obtain ⟨mA, hns, _⟩ : ObjOk X.prog X.w H s.heap n (.xd fs) := I.hok n _ hn
  obtain ⟨od, ho, _⟩ := lookIn_ns hns
  have J : PySem.W.InstAt s.heap a oe D (some od) := ⟨at0, hz.1, by unfold PySem.W.notCls; rw [hv] <;> rfl, by rw [hz.2]; exact ho⟩
  exact PySem.W.kia_one (kit_caught C) I.kIn J e (fun z => nomatch z) fun tk => ⟨.bl b, H, I.kept (t' := tk) fun _ _ z => z, rfl, q⟩
end Hv
set_option Elab.async false
set_option linter.all false
set_option maxRecDepth 100000
set_option maxHeartbeats 4000000
namespace Hv
open PySem PySem.Spec PyProof.Rows L2 PySem.HandSPX PySem.Calls
open PySem.W (Looks kdv_tup InitBack)
/-! ## making an own exception, with keywords too -/
section
variable {M : Model} {A : Around} {E : Value → Shared → Prop} {hp : Heap} {g : Array GenState} {dr : Drawn} {tk : Nat} {os : OsState} {nm qn : Str} {C N : Addr} {bs bm bB : List Value} {hd : Bool} {sn : List Str} {sb : List Value} {ab : Bool} {cl : Option Bool} {dd : Option Addr} {k0 k1 k2 k3 k5 : Option Value} {B nw ini : String} {rest : List Value} {kw : List (Str × Value)}
theorem kw_check {Q : Unit → Shared → Prop} (F : ExcBaseFacts B nw ini bB) (hT : ∀ Y : String, bm.contains (.type Y) = bB.contains (.type Y)) (hC : hp.get? C = some (excClassObj nm qn C N bs bm hd sn sb ab cl dd k0 k1 k2 k3 k5 nw)) (hq : Q () ⟨hp, g, dr, tk, os⟩) :
    wpAny M A (checkBuiltinCall nw ⟨.ref C :: rest, kw⟩) Q E ⟨hp, g, dr, tk, os⟩ := by
  have below : (Value.ref C :: bm).contains (.type B) = true := by rw [List.contains_cons, hT, F.hasB, Bool.or_true]
  have nostar := F.noStar ; simp only [checkBuiltinCall, F.newKind, F.newSplit, F.newRow]
  repeat (first | refine wpAny_loadPart_at hC ?_ | (refine wpAny_isSubtype_exc hC ?_; rw [below]) | refine wpAny_staticBase_exc hC ?_ | refine wpAny_madeBy_exc hC ?_ | simp only [bne_self_eq_false, Bool.false_eq_true, if_false] | wp_step)
  all_goals exact hq
end
section
variable {prog : Program} {w : World} {A : Around} {E : Value → Shared → Prop} {R : Result → Shared → Prop} {hp : Heap} {g : Array GenState} {dr : Drawn} {tk : Nat} {os : OsState} {nm qn : Str} {C N fI : Addr} {bs bm bB : List Value} {hd : Bool} {sn : List Str} {sb : List Value} {ab : Bool} {cl : Option Bool} {dd : Option Addr} {k0 k1 k2 k3 k5 : Option Value} {B nw ini : String} {rest : List Value} {kw : List (Str × Value)}
theorem kw_new (F : ExcBaseFacts B nw ini bB) (hT : ∀ Y : String, bm.contains (.type Y) = bB.contains (.type Y)) (hC : hp.get? C = some (excClassObj nm qn C N bs bm hd sn sb ab cl dd k0 k1 k2 k3 k5 nw)) (few : rest.length ≤ sizeLine)
    (hq : R (.ok (.ret (.ref (hp.objs.size + 1)))) ⟨(hp.push (kdv_tup rest)).push (excO C hp.objs.size), g, dr, tk, os⟩) : codeAny (model prog w) A (.builtin nw ⟨.ref C :: rest, kw⟩) R ⟨hp, g, dr, tk, os⟩ := by
  have ends := F.ends
  have inB : (Value.ref C :: bm).contains (.type B) = true := by rw [List.contains_cons, hT, F.hasB, Bool.or_true]
  have inA : (Value.ref C :: bm).contains (.type "AttributeError") = false := by rw [List.contains_cons, hT, F.noAttr]; rfl
  have inN : (Value.ref C :: bm).contains (.type "NameError") = false := by rw [List.contains_cons, hT, F.noName]; rfl
  refine codeAny_builtinAt F.entry ?_ ; unfold Builtin.«BaseException.__new__» ; refine PySem.wpAt_bind ?_
  show PySem.wpAt _ _ _ (stack >>= _) _ _ _ ; refine PySem.wpAt_bind (PySem.wpAt_stack fun p below => PySem.wpAt_of_wpAny ?_)
  wp_walk
  refine PySem.wpAt_of_wpAny ?_ ; rw [F.owner]
  repeat (first | with_reducible refine wpAny_madeHere_exc F.canon hC ?_ | with_reducible refine wpAny_loadPart_at hC ?_ | (with_reducible refine wpAny_isSubtype_exc hC ?_; first | rw [inB] | rw [inA] | rw [inN]) | wp_step)
  show R _ _ ; rw [Heap.size_push] ; exact hq
theorem kw_type {Q : Fin → Shared → Prop} (F : ExcBaseFacts B nw ini bB) (hT : ∀ Y : String, bm.contains (.type Y) = bB.contains (.type Y)) (hC : hp.get? C = some (excClassObj nm qn C N bs bm hd sn sb ab cl dd k0 k1 k2 k3 k5 nw)) (few : rest.length ≤ sizeLine)
    (hi : Looks (model prog w) hp (typeLookup (.ref C) "__init__") (some (.ref fI))) (hb : ∀ self, Looks (model prog w) hp (bindSpecial (.ref fI) self) (.ref fI, [self]))
    (hq : codeAny (model prog w) A (.call (.ref fI) ⟨.ref (hp.objs.size + 1) :: rest, kw⟩) (fun r s' => match r with | .ok (.ret v) => v = .none ∧ Q (.done (.ret (.ref (hp.objs.size + 1)))) s' | .ok _ => False | .error e => E e s')
      ⟨(hp.push (kdv_tup rest)).push (excO C hp.objs.size), g, dr, tk, os⟩) : wpAny (model prog w) A (Builtin.«type.__call__» ⟨.ref C :: rest, kw⟩) Q E ⟨hp, g, dr, tk, os⟩ := by
  repeat (first | with_reducible refine wpAny_loadPart_at hC ?_ | with_reducible refine wpAny_madeBy_exc hC ?_ | wp_step)
  refine codeAny_call_builtin_code (Code.quiet_builtin _ F.quiet) (kw_check F hT hC (kw_new F hT hC few ?_))
  show wpAny _ _ _ _ _ _
  have grown : ∀ b o, hp.get? b = some o → ((hp.push (kdv_tup rest)).push (excO C hp.objs.size)).get? b = some o := fun b o z => Heap.get?_push_of_some _ (Heap.get?_push_of_some _ z)
  have cNow := grown _ _ hC
  have there : ((hp.push (kdv_tup rest)).push (excO C hp.objs.size)).get? (hp.objs.size + 1) = some (excO C hp.objs.size) := by heap_get
  have inC : (Value.ref C :: bm).contains (.ref C) = true := by simp
  have i1 := hi.keeps grown
  have b1 := (hb (.ref (hp.objs.size + 1))).keeps grown
  unfold isInstance
  repeat (first | with_reducible refine wpAny_loadPart_at there ?_ | (with_reducible refine wpAny_isSubtype_exc cNow ?_; rw [inC]) | wp_step)
  show wpAny _ _ (typeLookup (.ref C) _) _ _ _ ; refine i1.at (wpAny_holding (wpAny_bind (b1.at (wpAny_bind (wpAny_call (codeAny_mono hq fun r s' z => ?_))))))
  rcases r with e | (v | _ | _ | _) <;> first | exact z | exact z.elim | skip
  obtain ⟨rfl, z⟩ := z ; first | exact wpAny_pure (wpAny_pure z) | (wp_walk; exact z)
theorem kw_call (F : ExcBaseFacts B nw ini bB) (hT : ∀ Y : String, bm.contains (.type Y) = bB.contains (.type Y)) (hC : hp.get? C = some (excClassObj nm qn C N bs bm hd sn sb ab cl dd k0 k1 k2 k3 k5 nw)) (few : rest.length ≤ sizeLine)
    (hi : Looks (model prog w) hp (typeLookup (.ref C) "__init__") (some (.ref fI))) (hb : ∀ self, Looks (model prog w) hp (bindSpecial (.ref fI) self) (.ref fI, [self]))
    (hq : codeAny (model prog w) (A.under (.builtin "type.__call__" ⟨.ref C :: rest, kw⟩)) (.call (.ref fI) ⟨.ref (hp.objs.size + 1) :: rest, kw⟩) (InitBack (hp.objs.size + 1) R) ⟨(hp.push (kdv_tup rest)).push (excO C hp.objs.size), g, dr, tk, os⟩) :
    codeAny (model prog w) A (.call (.ref C) ⟨rest, kw⟩) R ⟨hp, g, dr, tk, os⟩ := by
  have f1 := tc_lookup
  have f2 := tc_bind (.ref C)
  have isTy : (⟨hp, g, dr, tk, os⟩ : Shared).TypeIs (.ref C) "type" := ⟨_, hC, rfl⟩
  refine codeAny_of_tree ?_ ; show wpAny _ _ (callAny (.ref C) _) _ _ _
  repeat (any_goals (first | assumption | with_reducible refine wpAny_loadPart_at hC ?_ | wp_step))
  refine ⟨rfl, codeAny_call_builtin_at (Code.quiet_builtin _ (by decide +kernel)) entry_typeCall (wpAny_check_type_call_sub hC (kw_type F hT hC few hi hb (codeAny_mono hq fun r s' z => ?_)))⟩
  rcases r with e | (v | _ | _ | _) <;> exact z
end
/-- how the keywords of a def without defaults come to its parameters -/
theorem Fun.kb {K : PySem.W.Frag} {x qual : Str} {st : Stmt} {f : Addr} {fd : FuncData} {ps : List Str} (F : Fun K x qual st f fd) (n : Nat) (ks : List Str) (g : {α : Type} → List α → List α → List α) (rel : ∀ {vs : List V} {us : List Value} {zs : List V} {ws : List Value}, Vals vs us → Vals zs ws → Vals (g vs zs) (g us ws))
    (h : ∀ (kV doc pm : Value) (an : Option Addr) (cdv ct : Value) (us ws : List Value), us.length = n → ws.length = ks.length → bindArgs (PySem.W.fnOf x qual (defArgs st) (defBody st) (defScope st) .none kV doc pm an cdv ct) ⟨us, ks.zip ws⟩ = pure (ps.zip (g us ws))) : KBn K fd ps n ks g g := by
  obtain ⟨oc, od, kV, doc, pm, an, cdv, ct, osl, rfl, lk, hcd⟩ := F.ex
  exact ⟨fun s us ws X l1 l2 => BindsTo.of_eq (h kV doc pm an cdv ct us ws l1 l2), rel⟩
/-! ## an own exception as a value -/
/-- C(e, ..), C(k = v, ..) as a value: a new exception, then C's own __init__ -/
def tMkE (C : Addr) (n m : Nat) (sp : Sp) (gV : List V → List V → List V) (ta tk : TA) : TE := fun σ H Q => ta σ H fun vs H1 => tk σ H1 fun zs H2 => vs.length = n ∧ zs.length = m ∧ n ≤ 1000 ∧
  ∀ a, H2 a = none → sp (gV (.ref a :: vs) zs) (upd H2 a (exo a C none)) (fun v H3 => v = .non ∧ Q (.ref a) H3) (fun _ _ _ => False)
section
variable {X : Cx} {e : Expr} {es : List Expr} {ta tk : TA} {x : Str} {p pos : Pos} {C fI : Addr} {B nw ini : String} {bB : List Value} {k n : Nat} {fd : FuncData} {ps ks : List Str} {sp : Sp} {g : List Value → List Value → List Value} {gV : List V → List V → List V} {kws : List Keyword}
theorem run_mkE {pins : List (Addr × Obj)} {σ : L2.St} {H : Hp} {s : Shared} {Q : VK} {us ws : List Value} {vs zs : List V} (T : ExC X.K C nw bB) (U : Under B nw ini bB) (iC : PySem.W.findIn X.K (.ref C) "__init__" = some (some (.ref fI))) (tI : PySem.W.typeIn X.K (.ref fI) = some (.type "function"))
    (G : FnOk X.prog X.w X.K X.mg X.base (L2.CX X.prog X.w) k fI fd ps sp) (hr : Room (k + 1) X.A) (hb : KBn X.K fd ps (n + 1) ks g gV) (I : Inv X pins σ H s) (r : Vals vs us) (rz : Vals zs ws) (l1 : vs.length = n) (l2 : zs.length = ks.length) (l3 : n ≤ 1000)
    (h : ∀ a, H a = none → sp (gV (.ref a :: vs) zs) (upd H a (exo a C none)) (fun v H3 => v = .non ∧ Q (.ref a) H3) (fun _ _ _ => False)) : wpAny (model X.prog X.w) X.A (call (.ref C) us (ks.zip ws)) (EP X pins σ Q) X.xe s := by
  obtain ⟨nm, q, N, bs, bm, sn, sub, ab, col, dd, k0, k1, k2, k3, k5, hC, hbm⟩ := T.cls
  obtain ⟨hp, g1, dr, t, os⟩ := s
  have up1 : hp.objs.size ≤ hp.objs.size + 1 := Nat.le_succ _
  have want := h (hp.objs.size + 1) (I.hok.fresh up1)
  have grown : ∀ b o, hp.get? b = some o → ((hp.push (kdv_tup us)).push (excO C hp.objs.size)).get? b = some o := fun b o z => Heap.get?_push_of_some _ (Heap.get?_push_of_some _ z)
  have there : ((hp.push (kdv_tup us)).push (excO C hp.objs.size)).get? (hp.objs.size + 1) = some (excO C hp.objs.size) := by heap_get
  have J := I.laid (t' := t) (a := hp.objs.size + 1) (o := exo (hp.objs.size + 1) C none) (h' := (hp.push (kdv_tup us)).push (excO C hp.objs.size)) grown up1 (exo_ok there)
  have rr : Vals (V.ref (hp.objs.size + 1) :: vs) (Value.ref (hp.objs.size + 1) :: us) := .cons rfl r
  have n1 : (Value.ref (hp.objs.size + 1) :: us).length = n + 1 := by rw [List.length_cons, ← r.length, l1]
  have few : us.length ≤ sizeLine := by rw [← Paired.length r, sizeLine_eq]; omega
  refine wpAny_call (kw_call U.ex (fun Y => owns_has bB Y bm hbm) (I.kIn _ _ hC) few (PySem.W.looks_findIn I.kIn iC) (fun self => PySem.W.bind_fn I.kIn self tI)
    (codeAny_mono (G.run _ X.stack _ _ ⟨Value.ref (hp.objs.size + 1) :: us, ks.zip ws⟩ (g (Value.ref (hp.objs.size + 1) :: us) ws) _ _ (fun _ _ _ => False) (hr.make C us (ks.zip ws)) (J.env0.make C us (ks.zip ws)) (hb.to _ _ ws J.kIn n1 (rz.length.symm.trans l2)) (hb.rel rr rz) want) fun res s2 back => ?_))
  match res, back with
  | .error er, ⟨_, _, _, _, _, _, _, _, _, _, _, _, no⟩ => exact no.elim
  | .ok (.ret u), back =>
    obtain ⟨v, H', I3, rv, ev, q3⟩ := J.after back
    subst ev
    exact ⟨rv, ⟨V.ref (hp.objs.size + 1), H', I3, rfl, q3⟩⟩
theorem pe_mkE (T : ExC X.K C nw bB) (U : Under B nw ini bB) (iC : PySem.W.findIn X.K (.ref C) "__init__" = some (some (.ref fI))) (tI : PySem.W.typeIn X.K (.ref fI) = some (.type "function"))
    (G : FnOk X.prog X.w X.K X.mg X.base (L2.CX X.prog X.w) k fI fd ps sp) (hr : Room (k + 1) X.A) (hb : KBn X.K fd ps (n + 1) [] g gV) (hg : Gl X x) (hm : X.mg x = some (.ref C)) (ha : PA X (e :: es) ta)
    (hdb : (x == ("__debug__" : Str)) = false := by decide) (hs : starEach (e :: es) X.env = (false, eval e X.env) :: starEach es X.env := by rfl) (hp : (backTo pos (starEach es X.env)).any (·.1) = false := by rfl) :
    PE X (.Call (.Name x p) (e :: es) [] pos) (tMkE C n 0 sp gV ta tNil) := by
  refine ⟨fun pins s σ H Q I h => wpAny_Call_Name_kw (ld_glob I hg hm (PySem.W.callWith_K (h₀ := X.base) I.ok.mod.kin T.kC (thn (ha.run pos pins s σ H _ I h) fun us s1 ⟨vs, H1, I1, r1, l1, l2, l3, q1⟩ => ⟨I1.kIn, ?_⟩) hs hp) hdb)⟩
  exact run_mkE (ks := []) (ws := []) T U iC tI G hr hb I1 r1 .nil l1 l2 l3 q1
theorem pe_mkE0 (T : ExC X.K C nw bB) (U : Under B nw ini bB) (iC : PySem.W.findIn X.K (.ref C) "__init__" = some (some (.ref fI))) (tI : PySem.W.typeIn X.K (.ref fI) = some (.type "function"))
    (G : FnOk X.prog X.w X.K X.mg X.base (L2.CX X.prog X.w) k fI fd ps sp) (hr : Room (k + 1) X.A) (hb : KBn X.K fd ps 1 [] g gV) (hg : Gl X x) (hm : X.mg x = some (.ref C)) (hdb : (x == ("__debug__" : Str)) = false := by decide) :
    PE X (.Call (.Name x p) [] [] pos) (tMkE C 0 0 sp gV tNil tNil) := by
  refine ⟨fun pins s σ H Q I h => wpAny_Call_Name_kw (ld_glob I hg hm (PySem.W.callWith_K0 I.kIn T.kC ?_) hdb)⟩
  obtain ⟨l1, l2, l3, q1⟩ := h
  exact run_mkE (us := []) (vs := []) (ks := []) (ws := []) T U iC tI G hr hb I .nil .nil l1 l2 l3 q1
theorem pe_mkEK (T : ExC X.K C nw bB) (U : Under B nw ini bB) (iC : PySem.W.findIn X.K (.ref C) "__init__" = some (some (.ref fI))) (tI : PySem.W.typeIn X.K (.ref fI) = some (.type "function"))
    (G : FnOk X.prog X.w X.K X.mg X.base (L2.CX X.prog X.w) k fI fd ps sp) (hr : Room (k + 1) X.A) (hb : KBn X.K fd ps 1 ks g gV) (hg : Gl X x) (hm : X.mg x = some (.ref C)) (hkw : PK X kws tk)
    (hall : (backToKw pos (keywordEach kws X.env)).all (·.1.isSome) = true := by rfl) (hks : (backToKw pos (keywordEach kws X.env)).filterMap (·.1) = ks := by rfl) (hdb : (x == ("__debug__" : Str)) = false := by decide)
    (hp : ((backTo pos (starEach [] X.env)).any (·.1) || (backToKw pos (keywordEach kws X.env)).any (·.1.isNone)) = false := by rfl) :
    PE X (.Call (.Name x p) [] kws pos) (tMkE C 0 ks.length sp gV tNil tk) := by
  refine ⟨fun pins s σ H Q I h => wpAny_Call_Name_kw (ld_glob I hg hm (PySem.W.callWith_KW0 (h₀ := X.base) I.ok.mod.kin T.kC hall ?_ hp) hdb)⟩
  refine thn (hkw.run pos pins s σ H _ I h) fun ws s2 ⟨zs, H2, I2, rz, l1, l2, l3, q2⟩ => ⟨I2.kIn, ?_⟩
  rw [hks]
  exact run_mkE (us := []) (vs := []) T U iC tI G hr hb I2 .nil rz rfl l2 l3 q2
end
end Hv
set_option Elab.async false
set_option linter.all false
set_option maxRecDepth 100000
set_option maxHeartbeats 4000000
namespace Hv
open PySem PySem.Spec PyProof.Rows L2
/-! ## what an own exception is as a value: its attributes, isinstance of it -/
/-- at a: an exception of the class at C with these attributes -/
def ExV (H : Hp) (a C : Addr) (fs : List (Str × V)) : Prop := (fs = [] ∧ H a = some (exo a C none)) ∨ ∃ n, H a = some (exo a C (some n)) ∧ H n = some (exd n fs)
theorem ExV.le {H G : Hp} {a C : Addr} {fs : List (Str × V)} (s : Same H G) (h : ExV H a C fs) : ExV G a C fs := h.imp (fun h => ⟨h.1, s _ _ h.2⟩) fun ⟨n, h1, h2⟩ => ⟨n, s _ _ h1, s _ _ h2⟩
/-- e.f, e an own exception -/
def tXv (K : PySem.W.Frag) (f : Str) (te : TE) : TE := fun σ H Q => te σ H fun x H1 => ∃ (a C : Addr) (fs : List (Str × V)) (v : V), x = .ref a ∧ ExV H1 a C fs ∧ XfC K C ∧ PySem.W.findIn K (.ref C) f = some none ∧ fs.lookup f = some v ∧ Q v H1
theorem pe_xv {X : Cx} {K : PySem.W.Frag} (hK : X.K = K) {e : Expr} {te : TE} {pos : Pos} {f : Str} (he : PE X e te) (hb : attributeBase e f X.env (eval e X.env) = eval e X.env := by rfl) : PE X (.Attribute e f pos) (tXv K f te) := by
  subst hK
  refine ⟨fun pins s σ H Q I h => attr_of hb (thn (he.run pins s σ H _ I h) fun u s1 ⟨x, H1, I1, rx, a, C, fs, v, ex, xv, T, hno, l, q⟩ => ?_)⟩
  subst ex
  obtain rfl : u = Value.ref a := rx
  rcases xv with ⟨rfl, _⟩ | ⟨n, ea, en⟩
  · cases l
  obtain ⟨t1, oa⟩ := exo_at I1.hok ea
  obtain ⟨mA, hns, rel⟩ := exd_at I1.hok en
  obtain ⟨od, ho, hl⟩ := lookIn_ns hns
  obtain ⟨u, hu, ru⟩ := RelO.some_of (v := v) (o := mA f) (by rw [← l]; exact rel f)
  have J : PySem.W.InstAt s1.heap a _ C (some od) := ⟨oa, rfl, rfl, ho⟩
  exact HandSPX.exc_get I1.kIn J T.ga T.gg T.exC (PySem.W.findObj_own T.hdC hno rfl (by rw [hl, hu])) (handed_of ru) ⟨v, H1, I1.tok _, ru, q⟩
/-- isinstance(e, c) -/
def rIsV (K : PySem.W.Frag) : List V → Hp → VK → Prop := fun xs H Q => ∃ (a C : Addr) (fs : List (Str × V)) (c : V) (cv : Value) (b : Bool), xs = [.ref a, c] ∧ ExV H a C fs ∧ ExcC K C ∧ ClsV c cv ∧ PySem.W.kitOne K (.ref C) cv = some b ∧ Q (.bl b) H
theorem call_isV {X : Cx} {K : PySem.W.Frag} (hK : X.K = K) : CallR X (.builtin "isinstance") (rIsV K) := by
  subst hK
  intro pins s σ H xs us Q I r h
  obtain ⟨a, C, fs, c, cv, b, rfl, xv, T, hc, e, q⟩ := h
  obtain ⟨u1, u2, rfl, r1, r2⟩ := vals2 r
  cases r1
  obtain rfl := hc.eq r2
  rcases xv with ⟨rfl, ea⟩ | ⟨n, ea, en⟩
  · obtain ⟨t1, oa⟩ := exo_at I.hok ea
    have J : PySem.W.InstAt s.heap a _ C none := ⟨oa, rfl, rfl, trivial⟩
    exact PySem.W.kia_one (PySem.W.handS_kitx_exc T.hg T.hk T.hs T.hd T.ha T.hn T.ht T.hm) I.kIn J e (fun z => nomatch z) fun tk => ⟨.bl b, H, I.kept (t' := tk) fun _ _ z => z, rfl, q⟩
  · obtain ⟨t1, oa⟩ := exo_at I.hok ea
    obtain ⟨mA, hns, rel⟩ := exd_at I.hok en
    obtain ⟨od, ho, _⟩ := lookIn_ns hns
    have J : PySem.W.InstAt s.heap a _ C (some od) := ⟨oa, rfl, rfl, ho⟩
    exact PySem.W.kia_one (kit_caught T) I.kIn J e (fun z => nomatch z) fun tk => ⟨.bl b, H, I.kept (t' := tk) fun _ _ z => z, rfl, q⟩
end Hv
set_option Elab.async false
set_option linter.all false
set_option maxRecDepth 100000
set_option maxHeartbeats 4000000
namespace Hv
open PySem PySem.Spec PyProof.Rows L2
/-! ## data with dicts of one text key, at any depth -/
mutual
inductive Dq (K : PySem.W.Frag) (H : Hp) : V → PyData → Prop
  | non : Dq K H .non .none
  | bl (b : Bool) : Dq K H (.bl b) (.bool b)
  | int (i : Int) : Dq K H (.int i) (.int i)
  | str (x : Str) : Dq K H (.str x) (.str x)
  | lst {a : Addr} {xs : List V} {ds : List PyData} : SqL K H a xs → DqAll K H xs ds → Dq K H (.ref a) (.list ds)
  | tup {a : Addr} {xs : List V} {ds : List PyData} : SqT K H a xs → DqAll K H xs ds → Dq K H (.ref a) (.tuple ds)
  | dnil {a : Addr} : Rd H a (.dK []) → Dq K H (.ref a) (.dict [])
  | done {a : Addr} {k : Str} {v : V} {d : PyData} : Rd H a (.dK [(.inr k, v)]) → Dq K H v d → Dq K H (.ref a) (.dict [(.str k, d)])
inductive DqAll (K : PySem.W.Frag) (H : Hp) : List V → List PyData → Prop
  | nil : DqAll K H [] []
  | cons {v : V} {vs : List V} {d : PyData} {ds : List PyData} : Dq K H v d → DqAll K H vs ds → DqAll K H (v :: vs) (d :: ds)
end
theorem rd_le {H G : Hp} {a : Addr} {u : HO} (s : Same H G) (h : Rd H a u) : Rd G a u := h.imp (s a _) fun ⟨o, e⟩ => ⟨o, s a _ e⟩
mutual
theorem Dq.le {K : PySem.W.Frag} {H G : Hp} (s : Same H G) : ∀ {v : V} {d : PyData}, Dq K H v d → Dq K G v d
  | _, _, .non => .non
  | _, _, .bl b => .bl b
  | _, _, .int i => .int i
  | _, _, .str x => .str x
  | _, _, .lst h a => .lst (SqL.le s h) (DqAll.le s a)
  | _, _, .tup h a => .tup (SqT.le s h) (DqAll.le s a)
  | _, _, .dnil h => .dnil (rd_le s h)
  | _, _, .done h a => .done (rd_le s h) (Dq.le s a)
theorem DqAll.le {K : PySem.W.Frag} {H G : Hp} (s : Same H G) : ∀ {vs : List V} {ds : List PyData}, DqAll K H vs ds → DqAll K G vs ds
  | _, _, .nil => .nil
  | _, _, .cons a b => .cons (Dq.le s a) (DqAll.le s b)
end
/-- what the written part says of the table of modules: it is no list -/
def Sm (K : PySem.W.Frag) : Prop := ∃ o, K.lookup sysModules = some o ∧ o.cls ≠ .type "list"
/-- these are no table of modules -/
def NoSm (as : List Addr) : Prop := sysModules ∉ as
section
variable {X : Cx} {pins : List (Addr × Obj)} {σ : L2.St} {H : Hp} {s : Shared}
mutual
theorem Dq.reads (I : Inv X pins σ H s) (M : Sm X.K) : ∀ (d : PyData) (v : V) (u : Value), Dq X.K H v d → RelV v u → ∃ as, Reads s.heap u d as ∧ NoSm as
  | .none, _, _, h, r => by cases h; cases r; exact ⟨_, .none, by simp [NoSm]⟩
  | .bool b, _, _, h, r => by cases h; cases r; exact ⟨_, .bool b, by simp [NoSm]⟩
  | .int i, _, _, h, r => by cases h; obtain ⟨t, rfl⟩ := r; exact ⟨_, .int i t, by simp [NoSm]⟩
  | .str x, _, _, h, r => by cases h; obtain ⟨t, rfl⟩ := r; exact ⟨_, .str x t, by simp [NoSm]⟩
  | .list ds, _, _, h, r => by
    cases h with
    | @lst a xs _ hs ha =>
      cases r
      obtain ⟨its, rv, ⟨o, n, ho, hc, _, hd⟩, _⟩ := I.list hs
      obtain ⟨as, hr, no⟩ := Dq.readsAll I M ds _ its ha rv
      refine ⟨_, .list ho hc hd hr, fun z => ?_⟩
      rcases List.mem_cons.mp z with z | z
      · obtain ⟨om, hm, nm⟩ := M
        have := I.kIn _ _ hm
        rw [z, ho] at this
        cases this
        exact nm hc
      · exact no z
  | .tuple ds, _, _, h, r => by
    cases h with
    | tup hs ha =>
      cases r
      obtain ⟨its, rv, ⟨o, ho, hc, n, hd⟩, _⟩ := I.tuple hs
      obtain ⟨as, hr, no⟩ := Dq.readsAll I M ds _ its ha rv
      exact ⟨_, .tuple ho hc hd hr, no⟩
  | .dict [], _, _, h, r => by
    cases h with
    | @dnil a hd =>
      cases r
      obtain ⟨_, lo, vs, rel, o, es, ep, ho, hex, hdt, _, hp, _⟩ := dk_rd I.hok hd
      cases rel
      cases hp' : es.toList with
      | nil =>
        exact ⟨a :: [] ++ [], .dict ho hex.1 hdt (by rw [hp']; exact .nil) (by rw [hp']; exact .nil), fun z => beq_eq_false_iff_ne.mp lo (List.mem_singleton.mp z).symm⟩
      | cons q r => rw [hp'] at hp; cases hp
  | .dict ((k, d) :: r0), _, u, h, r => by
    cases h with
    | @done a k v d hd hv =>
      cases r
      obtain ⟨_, lo, vs, rel, o, es, ep, ho, hex, hdt, _, hp, _⟩ := dk_rd I.hok hd
      cases rel with
      | @cons p0 b _ _ hb ht =>
        cases ht
        cases hp' : es.toList with
        | nil => rw [hp'] at hp; cases hp
        | cons q r =>
          rw [hp'] at hp
          cases hp with
          | cons hk hv2 ht2 =>
            cases ht2
            obtain ⟨as, hr, no⟩ := Dq.reads I M d v _ hv hb.2
            refine ⟨a :: ([] ++ []) ++ (as ++ []), .dict ho hex.1 hdt ?_ ?_, fun z => ?_⟩
            · rw [hp']
              refine .cons (as := []) ?_ .nil
              rcases keyIs_shape (show keyIs b.1 q.key = true from hk) with ⟨i, t, h1, h2⟩ | ⟨x, t, h1, h2⟩
              · rw [← hb.1] at h1
                cases h1
              · rw [← hb.1] at h1
                cases h1
                show Reads s.heap q.key (.str k) []
                rw [h2]
                exact .str k t
            · rw [hp']
              refine .cons ?_ .nil
              show Reads s.heap q.val d as
              rw [hv2]
              exact hr
            · rcases List.mem_cons.mp z with z | z
              · exact beq_eq_false_iff_ne.mp lo z.symm
              · exact no (by simpa using z)
theorem Dq.readsAll (I : Inv X pins σ H s) (M : Sm X.K) : ∀ (ds : List PyData) (vs : List V) (us : List Value), DqAll X.K H vs ds → Vals vs us → ∃ as, ReadsAll s.heap us ds as ∧ NoSm as
  | [], _, _, h, r => by cases h; cases r; exact ⟨_, .nil, by simp [NoSm]⟩
  | d :: ds, _, _, h, r => by
    cases h with
    | cons h1 h2 =>
      cases r with
      | cons r1 r2 =>
        obtain ⟨as, q1, n1⟩ := Dq.reads I M d _ _ h1 r1
        obtain ⟨bs, q2, n2⟩ := Dq.readsAll I M ds _ _ h2 r2
        exact ⟨_, .cons q1 q2, fun z => (List.mem_append.mp z).elim n1 n2⟩
end
end
end Hv
set_option Elab.async false
set_option linter.all false
set_option maxRecDepth 100000
set_option maxHeartbeats 4000000
namespace Hv
open PySem PySem.Spec PyProof.Rows L2
/-! ## own exception classes with one, two or no attributes: all that is known of one, and short readings -/
/-- the class x at C over a built-in one -/
structure Xc (P : Program) (w : World) (K : PySem.W.Frag) (mg : Str → Option Value) (x : Str) (C : Addr) : Prop where
  low : ∃ nw ini B bB, ExC K C nw bB ∧ Under B nw ini bB
  gC : mg x = some (.ref C)
  xf : XfC K C
  xc : ExcC K C
/-- its own __init__ keeps sp -/
structure XInit (P : Program) (w : World) (K : PySem.W.Frag) (mg : Str → Option Value) (base : Heap) (C : Addr) (ps : List Str) (sp : Sp) (ks : List Str) (g : {α : Type} → List α → List α → List α) : Prop where
  ex : ∃ (fI : Addr) (fd : FuncData), PySem.W.findIn K (.ref C) "__init__" = some (some (.ref fI)) ∧ PySem.W.typeIn K (.ref fI) = some (.type "function") ∧ FnOk P w K mg base (L2.CX P w) 1 fI fd ps sp ∧ Binds K fd ps [] ∧
    KBn K fd ps ps.length [] (fun us ws => us ++ ws) (fun us ws => us ++ ws) ∧ KBn K fd ps 1 ks g g
/-- one attribute -/
structure X1 (P : Program) (w : World) (K : PySem.W.Frag) (mg : Str → Option Value) (base : Heap) (x : Str) (C : Addr) (f : Str) : Prop extends Xc P w K mg x C where
  init : XInit P w K mg base C ["self", f] (spE1 C f) [f] (fun us ws => us ++ ws)
  nof : PySem.W.findIn K (.ref C) f = some none
/-- two -/
structure X2 (P : Program) (w : World) (K : PySem.W.Frag) (mg : Str → Option Value) (base : Heap) (x : Str) (C : Addr) (f g : Str) : Prop extends Xc P w K mg x C where
  init : XInit P w K mg base C ["self", f, g] (spE2 C f g) [g, f] (fun us ws => us ++ ws.reverse)
  nof : PySem.W.findIn K (.ref C) f = some none
  nog : PySem.W.findIn K (.ref C) g = some none
/-- none -/
def spE0 (C : Addr) : Sp := fun vs H Q _ => ∃ (a : Addr), vs = [.ref a] ∧ Q .non H
structure X0 (P : Program) (w : World) (K : PySem.W.Frag) (mg : Str → Option Value) (base : Heap) (x : Str) (C : Addr) : Prop extends Xc P w K mg x C where
  init : XInit P w K mg base C ["self"] (spE0 C) [] (fun us ws => us ++ ws)
/-! readings -/
def tX1 (C : Addr) (f : Str) (t : TA) : TE := fun σ H Q => t σ H fun vs H1 => ∃ y, vs = [y] ∧ ∀ a n, H1 a = none → H1 n = none → n ≠ a → Q (.ref a) (upd (upd H1 n (exd n [(f, y)])) a (exo a C (some n)))
def tX2 (C : Addr) (f g : Str) (t : TA) : TE := fun σ H Q => t σ H fun vs H1 => ∃ y z, vs = [y, z] ∧ ∀ a n, H1 a = none → H1 n = none → n ≠ a → Q (.ref a) (upd (upd H1 n (exd n [(g, z), (f, y)])) a (exo a C (some n)))
def tX2r (C : Addr) (f g : Str) (t : TA) : TE := fun σ H Q => t σ H fun vs H1 => ∃ y z, vs = [z, y] ∧ ∀ a n, H1 a = none → H1 n = none → n ≠ a → Q (.ref a) (upd (upd H1 n (exd n [(g, z), (f, y)])) a (exo a C (some n)))
def tX0 (C : Addr) : TE := fun σ H Q => ∀ a, H a = none → Q (.ref a) (upd H a (exo a C none))
section
variable {X : Cx} {e : Expr} {es : List Expr} {ta tk : TA} {x f f2 : Str} {p pos : Pos} {C : Addr} {kws : List Keyword}
theorem un_ne {H1 : Hp} {a b n : Addr} {o o' : HO} (na : n ≠ a) (hn : upd H1 a o' n = none) (e : H1 b = some o) : b ≠ n := fun z => by
  rw [upd_ne na, ← z, e] at hn
  cases hn
theorem un_at {H1 : Hp} {a n : Addr} {o : HO} (na : n ≠ a) (hn : upd H1 a o n = none) : H1 n = none := by rwa [upd_ne na] at hn
theorem upd_3 {H : Hp} {a n : Addr} {o p q : HO} (na : n ≠ a) : upd (upd (upd H a o) n p) a q = upd (upd H n p) a q := by
  funext b
  by_cases h : b = a
  · rw [h, upd_same, upd_same]
  · rw [upd_ne h, upd_ne h]
    by_cases k : b = n
    · rw [k, upd_same, upd_same]
    · rw [upd_ne k, upd_ne k, upd_ne h]
theorem upd_swap {H : Hp} {a n : Addr} {o p : HO} (na : n ≠ a) : upd (upd H a o) n p = upd (upd H n p) a o := by
  funext b
  by_cases h : b = a
  · rw [h, upd_ne na.symm, upd_same, upd_same]
  · rw [upd_ne h]
    by_cases k : b = n
    · rw [k, upd_same, upd_same]
    · rw [upd_ne k, upd_ne k, upd_ne h]
theorem upd_two {H : Hp} {n : Addr} {o p : HO} : upd (upd H n o) n p = upd H n p := by
  funext b
  by_cases k : b = n
  · rw [k, upd_same, upd_same]
  · rw [upd_ne k, upd_ne k, upd_ne k]
theorem end1 {H1 : Hp} {C : Addr} {f : Str} {y : V} {Q : VK} (q : ∀ a n, H1 a = none → H1 n = none → n ≠ a → Q (.ref a) (upd (upd H1 n (exd n [(f, y)])) a (exo a C (some n)))) (a : Addr) (ha : H1 a = none) : spE1 C f [.ref a, y] (upd H1 a (exo a C none)) (fun v H3 => v = .non ∧ Q (.ref a) H3) (fun _ _ _ => False) :=
  ⟨a, y, rfl, upd_same, fun n hn na => ⟨rfl, by
    rw [upd_3 na]
    exact q a n ha (un_at na hn) na⟩⟩
theorem end2 {H1 : Hp} {C : Addr} {f g : Str} {y z : V} {Q : VK} (q : ∀ a n, H1 a = none → H1 n = none → n ≠ a → Q (.ref a) (upd (upd H1 n (exd n [(g, z), (f, y)])) a (exo a C (some n)))) (a : Addr) (ha : H1 a = none) : spE2 C f g [.ref a, y, z] (upd H1 a (exo a C none)) (fun v H3 => v = .non ∧ Q (.ref a) H3) (fun _ _ _ => False) :=
  ⟨a, y, z, rfl, upd_same, fun n hn na => ⟨rfl, by
    rw [upd_3 na, upd_swap (Ne.symm na), upd_two, upd_swap na]
    exact q a n ha (un_at na hn) na⟩⟩
/-- arguments, whatever is wanted less -/
def upA (t : TA) : TA := fun σ H Q => ∃ Q0 : List V → Hp → Prop, t σ H Q0 ∧ ∀ vs H1, Q0 vs H1 → Q vs H1
theorem PA.up (ha : PA X es ta) : PA X es (upA ta) := ⟨fun pos pins s σ H Q I ⟨Q0, h, k⟩ => wpAny_mono (ha.run pos pins s σ H Q0 I h) (fun _ _ ⟨vs, H1, I1, r, q⟩ => ⟨vs, H1, I1, r, k _ _ q⟩) fun _ _ z => z⟩
theorem PK.up (ha : PK X kws tk) : PK X kws (upA tk) := ⟨fun pos pins s σ H Q I ⟨Q0, h, k⟩ => wpAny_mono (ha.run pos pins s σ H Q0 I h) (fun _ _ ⟨vs, H1, I1, r, q⟩ => ⟨vs, H1, I1, r, k _ _ q⟩) fun _ _ z => z⟩
theorem pe_x1 (T : X1 X.prog X.w X.K X.mg X.base x C f) (hr : Room 2 X.A) (hg : Gl X x) (ha : PA X [e] ta) (hdb : (x == ("__debug__" : Str)) = false := by decide) (hs : starEach [e] X.env = (false, eval e X.env) :: starEach [] X.env := by rfl) (hp : (backTo pos (starEach [] X.env)).any (·.1) = false := by rfl) :
    PE X (.Call (.Name x p) [e] [] pos) (tX1 C f ta) := by
  obtain ⟨nw, ini, B, bB, T1, U⟩ := T.low
  obtain ⟨fI, fd, iC, tI, G, _, kp, _⟩ := T.init.ex
  refine ⟨fun pins s σ H Q I h => (pe_mkE (n := 1) T1 U iC tI G hr kp hg T.gC (PA.up ha) hdb hs hp).run pins s σ H Q I ⟨_, h, ?_⟩⟩
  rintro vs H1 ⟨y, rfl, q⟩
  exact ⟨rfl, rfl, by decide, fun a ha => end1 q a ha⟩
theorem pe_x1k (T : X1 X.prog X.w X.K X.mg X.base x C f) (hr : Room 2 X.A) (hg : Gl X x) (hkw : PK X kws tk) (hall : (backToKw pos (keywordEach kws X.env)).all (·.1.isSome) = true := by rfl) (hks : (backToKw pos (keywordEach kws X.env)).filterMap (·.1) = [f] := by rfl) (hdb : (x == ("__debug__" : Str)) = false := by decide)
    (hp : ((backTo pos (starEach [] X.env)).any (·.1) || (backToKw pos (keywordEach kws X.env)).any (·.1.isNone)) = false := by rfl) : PE X (.Call (.Name x p) [] kws pos) (tX1 C f tk) := by
  obtain ⟨nw, ini, B, bB, T1, U⟩ := T.low
  obtain ⟨fI, fd, iC, tI, G, _, _, kk⟩ := T.init.ex
  refine ⟨fun pins s σ H Q I h => (pe_mkEK (ks := [f]) T1 U iC tI G hr kk hg T.gC (PK.up hkw) hall hks hdb hp).run pins s σ H Q I ⟨_, h, ?_⟩⟩
  rintro zs H1 ⟨y, rfl, q⟩
  exact ⟨rfl, rfl, by decide, fun a ha => end1 q a ha⟩
theorem pe_x2 {e2 : Expr} (T : X2 X.prog X.w X.K X.mg X.base x C f f2) (hr : Room 2 X.A) (hg : Gl X x) (ha : PA X [e, e2] ta) (hdb : (x == ("__debug__" : Str)) = false := by decide) (hs : starEach [e, e2] X.env = (false, eval e X.env) :: starEach [e2] X.env := by rfl) (hp : (backTo pos (starEach [e2] X.env)).any (·.1) = false := by rfl) :
    PE X (.Call (.Name x p) [e, e2] [] pos) (tX2 C f f2 ta) := by
  obtain ⟨nw, ini, B, bB, T1, U⟩ := T.low
  obtain ⟨fI, fd, iC, tI, G, _, kp, _⟩ := T.init.ex
  refine ⟨fun pins s σ H Q I h => (pe_mkE (n := 2) T1 U iC tI G hr kp hg T.gC (PA.up ha) hdb hs hp).run pins s σ H Q I ⟨_, h, ?_⟩⟩
  rintro vs H1 ⟨y, z, rfl, q⟩
  exact ⟨rfl, rfl, by decide, fun a ha => end2 q a ha⟩
theorem pe_x2k (T : X2 X.prog X.w X.K X.mg X.base x C f f2) (hr : Room 2 X.A) (hg : Gl X x) (hkw : PK X kws tk) (hall : (backToKw pos (keywordEach kws X.env)).all (·.1.isSome) = true := by rfl) (hks : (backToKw pos (keywordEach kws X.env)).filterMap (·.1) = [f2, f] := by rfl) (hdb : (x == ("__debug__" : Str)) = false := by decide)
    (hp : ((backTo pos (starEach [] X.env)).any (·.1) || (backToKw pos (keywordEach kws X.env)).any (·.1.isNone)) = false := by rfl) : PE X (.Call (.Name x p) [] kws pos) (tX2r C f f2 tk) := by
  obtain ⟨nw, ini, B, bB, T1, U⟩ := T.low
  obtain ⟨fI, fd, iC, tI, G, _, _, kk⟩ := T.init.ex
  refine ⟨fun pins s σ H Q I h => (pe_mkEK (ks := [f2, f]) T1 U iC tI G hr kk hg T.gC (PK.up hkw) hall hks hdb hp).run pins s σ H Q I ⟨_, h, ?_⟩⟩
  rintro zs H1 ⟨y, z, rfl, q⟩
  exact ⟨rfl, rfl, by decide, fun a ha => end2 q a ha⟩
theorem pe_x0 (T : X0 X.prog X.w X.K X.mg X.base x C) (hr : Room 2 X.A) (hg : Gl X x) (hdb : (x == ("__debug__" : Str)) = false := by decide) : PE X (.Call (.Name x p) [] [] pos) (tX0 C) := by
  obtain ⟨nw, ini, B, bB, T1, U⟩ := T.low
  obtain ⟨fI, fd, iC, tI, G, _, kp, _⟩ := T.init.ex
  exact ⟨fun pins s σ H Q I h => (pe_mkE0 T1 U iC tI G hr kp hg T.gC hdb).run pins s σ H Q I ⟨rfl, rfl, by decide, fun a ha => ⟨a, rfl, rfl, h a ha⟩⟩⟩
/-! ## raised -/
theorem exo_gone {H : Hp} {a C : Addr} : delH (upd H a (exo a C none)) a = delH H a := by
  funext b
  unfold delH
  by_cases h : b = a
  · rw [if_pos h, if_pos h]
  · rw [if_neg h, if_neg h, upd_ne h]
/-- what gives a new exception without attributes makes an exception -/
theorem pmk_x0 {te : TE} (hx : X.ex = []) (he : PE X e te) : PMk X e (fun σ H Q => te σ H fun x H1 => ∃ a C, x = .ref a ∧ H1 a = some (exo a C none) ∧ Fr0 X.H_0 a ∧ Raises X (.ref C) ∧ Q (.ref C) none (delH H1 a)) := by
  intro pins s σ H Q I h
  refine wpAny_mono (he.run pins s σ H _ I h) (fun u s1 ⟨v, H1, I1, r1, a, C, ev, ha, h0, hr, q⟩ => ?_) fun _ _ z => z
  subst ev
  cases r1
  obtain ⟨t1, oa⟩ := exo_at I1.hok ha
  obtain ⟨G, gs, ga, J⟩ := I1.untrack ha h0 hx
  exact ⟨a, _, _, { s1 with heap := G }, delH H1 a, .ref C, none, rfl, J, gs, ga, oa, ⟨rfl, rfl⟩, rfl, rfl, delH_same, rfl, I1.bare, hr, q⟩
def tR1 (C : Addr) (f : Str) (t : TA) : L2.St → Hp → XK → Prop := fun σ H Q => t σ H fun vs H1 => ∃ y, vs = [y] ∧ ∀ n, H1 n = none → Q (.ref C) (some n) (upd H1 n (.xd [(f, y)]))
def tR2 (C : Addr) (f g : Str) (t : TA) : L2.St → Hp → XK → Prop := fun σ H Q => t σ H fun vs H1 => ∃ y z, vs = [y, z] ∧ ∀ n, H1 n = none → Q (.ref C) (some n) (upd H1 n (.xd [(g, z), (f, y)]))
theorem pmk_x1 (T : X1 X.prog X.w X.K X.mg X.base x C f) (hr : Room 2 X.A) (hg : Gl X x) (ha : PA X [e] ta) (hdb : (x == ("__debug__" : Str)) = false := by decide) (hs : starEach [e] X.env = (false, eval e X.env) :: starEach [] X.env := by rfl) (hp : (backTo pos (starEach [] X.env)).any (·.1) = false := by rfl) :
    PMk X (.Call (.Name x p) [e] [] pos) (tR1 C f ta) := by
  obtain ⟨nw, ini, B, bB, T1, U⟩ := T.low
  obtain ⟨fI, fd, iC, tI, G, b, _, _⟩ := T.init.ex
  intro pins s σ H Q I h
  refine pmk_ox T1 U iC tI G hr b hg T.gC (PA.up ha) hdb hs hp pins s σ H Q I ⟨_, h, ?_⟩
  rintro vs H1 ⟨y, rfl, q⟩
  exact mkE1 q
theorem pmk_x2 {e2 : Expr} (T : X2 X.prog X.w X.K X.mg X.base x C f f2) (hr : Room 2 X.A) (hg : Gl X x) (ha : PA X [e, e2] ta) (hdb : (x == ("__debug__" : Str)) = false := by decide) (hs : starEach [e, e2] X.env = (false, eval e X.env) :: starEach [e2] X.env := by rfl) (hp : (backTo pos (starEach [e2] X.env)).any (·.1) = false := by rfl) :
    PMk X (.Call (.Name x p) [e, e2] [] pos) (tR2 C f f2 ta) := by
  obtain ⟨nw, ini, B, bB, T1, U⟩ := T.low
  obtain ⟨fI, fd, iC, tI, G, b, _, _⟩ := T.init.ex
  intro pins s σ H Q I h
  refine pmk_ox T1 U iC tI G hr b hg T.gC (PA.up ha) hdb hs hp pins s σ H Q I ⟨_, h, ?_⟩
  rintro vs H1 ⟨y, z, rfl, q⟩
  exact mkE2 q
end
end Hv
set_option Elab.async false
set_option linter.all false
set_option maxRecDepth 100000
set_option maxHeartbeats 4000000
namespace Hv
open PySem PySem.Spec PyProof.Rows L2
/-! ## the __init__s of such classes, by their texts -/
section
variable {P : Program} {w : World} {K : PySem.W.Frag} {mg : Str → Option Value} {base : Heap} {qual f g : Str} {st : Stmt} {fI C : Addr} {fd : FuncData} {B nw ini : String} {bB : List Value} {p1 p2 p3 p4 q1 q2 q3 q4 : Pos}
theorem vis_of {N ps : List Str} {sc : Scope} (S : FnScope N ps sc) {x : Str} (h : x ∈ ps) : Vis sc x := (S.par x h).imp id fun z => .inl z
theorem init1_ok (F : Fun K "__init__" qual st fI fd) (S : FnScope ["self", f] ["self", f] (defScope st)) (hb : defBody st = [.Assign [.Attribute (.Name "self" p1) f p2] (.Name f p3) p4]) (h1 : (f == ("__debug__" : Str)) = false) (h2 : (f == ("__classdict__" : Str)) = false)
    (T : ExC K C nw bB) (U : Under B nw ini bB) (hno : PySem.W.findIn K (.ref C) f = some none) : FnOk P w K mg base (L2.CX P w) 1 fI fd ["self", f] (spE1 C f) := by
  refine F.okX S (fun vs H Q E h => ?_) (fun cdv A outer s H vs Q E hr h => ?_)
  · obtain ⟨a, y, rfl, _⟩ := h
    rfl
  · obtain ⟨a, y, rfl, ha, q⟩ := h
    rw [hb]
    refine ⟨_, pss_one (ps_ox T U hno (pe_var (i := 0) rfl (vis_of S (by simp)) (by decide) (by decide)) (pe_var (i := 1) rfl (vis_of S (by simp)) h1 h2)), ?_⟩
    exact ⟨y, rfl, .ref a, rfl, a, rfl, .inl ⟨ha, fun n hn na => q n hn na⟩⟩
theorem init2_ok (F : Fun K "__init__" qual st fI fd) (S : FnScope ["self", f, g] ["self", f, g] (defScope st)) (hb : defBody st = [.Assign [.Attribute (.Name "self" p1) f p2] (.Name f p3) p4, .Assign [.Attribute (.Name "self" q1) g q2] (.Name g q3) q4])
    (h1 : (f == ("__debug__" : Str)) = false) (h2 : (f == ("__classdict__" : Str)) = false) (h3 : (g == ("__debug__" : Str)) = false) (h4 : (g == ("__classdict__" : Str)) = false)
    (T : ExC K C nw bB) (U : Under B nw ini bB) (hno : PySem.W.findIn K (.ref C) f = some none) (hno2 : PySem.W.findIn K (.ref C) g = some none) : FnOk P w K mg base (L2.CX P w) 1 fI fd ["self", f, g] (spE2 C f g) := by
  refine F.okX S (fun vs H Q E h => ?_) (fun cdv A outer s H vs Q E hr h => ?_)
  · obtain ⟨a, y, z, rfl, _⟩ := h
    rfl
  · obtain ⟨a, y, z, rfl, ha, q⟩ := h
    rw [hb]
    refine ⟨_, pss_cons (ps_ox T U hno (pe_var (i := 0) rfl (vis_of S (by simp)) (by decide) (by decide)) (pe_var (i := 1) rfl (vis_of S (by simp)) h1 h2))
      (pss_one (ps_ox T U hno2 (pe_var (i := 0) rfl (vis_of S (by simp)) (by decide) (by decide)) (pe_var (i := 2) rfl (vis_of S (by simp)) h3 h4))), ?_⟩
    refine ⟨y, rfl, .ref a, rfl, a, rfl, .inl ⟨ha, fun n hn na => ?_⟩⟩
    exact ⟨z, rfl, .ref a, rfl, a, rfl, .inr ⟨n, _, upd_same, by rw [upd_ne na, upd_same], by simp, q n hn na⟩⟩
theorem init0_ok (F : Fun K "__init__" qual st fI fd) (S : FnScope ["self"] ["self"] (defScope st)) (hb : defBody st = [.Pass p1]) : FnOk P w K mg base (L2.CX P w) 1 fI fd ["self"] (spE0 C) := by
  refine F.okX S (fun vs H Q E h => ?_) (fun cdv A outer s H vs Q E hr h => ?_)
  · obtain ⟨a, rfl, _⟩ := h
    rfl
  · obtain ⟨a, rfl, q⟩ := h
    rw [hb]
    exact ⟨_, pss_one ps_pass, q⟩
end
end Hv
set_option Elab.async false
set_option linter.all false
set_option maxRecDepth 100000
set_option maxHeartbeats 4000000
namespace Hv
open PySem PySem.Spec PyProof.Rows L2
/-! ## the head's facts: any question to the written part that is answered by true, and the defs -/
section
variable {ck : PySem.W.Frag → Bool} {fn : List He.DefD} {K : PySem.W.Frag}
theorem SaysB.two (c : SaysB ck fn K) : ck K = true ∧ (fn.all fun d => d.ok K) = true := Bool.and_eq_true_iff.mp (show (ck K && fn.all fun d => d.ok K) = true from congrArg (fun z : He.AlD => z.1) c)
theorem SaysB.def_ (c : SaysB ck fn K) (i : Nat) {d : He.DefD} (h : fn[i]? = some d := by rfl) : ∃ fd, FunD K d.name d.qual d.params d.body d.scope (d.dvs K) (d.kws K) (He.fAd K d.at_) fd := by
  have e : fn.map (fun d => He.fnW K d.at_) = fn.map He.DefD.val := congrArg (fun z : He.AlD => z.2) c
  have e2 : (fn.map fun d => He.fnW K d.at_)[i]? = (fn.map He.DefD.val)[i]? := by rw [e]
  rw [List.getElem?_map, List.getElem?_map, h] at e2
  exact He.DefD.funD (Option.some.inj e2) (List.all_eq_true.mp c.two.2 d (List.mem_of_getElem? h))
end
/-- a def of the text without defaults -/
theorem fun_ofD {K : PySem.W.Frag} {x qual : Str} {st : Stmt} {f : Addr} {fd : FuncData} (F : FunD K x qual (defArgs st) (defBody st) (defScope st) [] [] f fd) : Fun K x qual st f fd := by
  obtain ⟨oc, od, dV, kV, doc, pm, an, cdv, ct, osl, rfl, lk, hcd, hD, hK⟩ := F.ex
  rcases hD with ⟨_, rfl⟩ | ⟨e, _⟩
  · exact ⟨⟨oc, od, kV, doc, pm, an, cdv, ct, osl, rfl, lk, hcd⟩, F.kp⟩
  · exact absurd rfl e
end Hv
set_option Elab.async false
set_option linter.all false
set_option maxRecDepth 100000
set_option maxHeartbeats 4000000
namespace Hv
open PySem PySem.Spec PyProof.Rows L2
/-! ## questions to the written part about own exception classes -/
theorem clsB_ok {K : PySem.W.Frag} {C : Addr} {bB : List Value} {nw : String} (h : clsB K C bB nw = true) :
    ∃ nm q N bs bm sn sub ab col dd k0 k1 k2 k3 k5, K.lookup C = some (excClassObj nm q C N bs bm true sn sub ab col dd k0 k1 k2 k3 k5 nw) ∧ ownsThen bB bm = true := by
  unfold clsB at h
  split at h
  · rename_i t dd cd sl e0
    split at h
    · rename_i C' bm k0 k1 k2 k3 n k5 e1 e2
      obtain ⟨h1, h⟩ := band h
      obtain ⟨h2, h⟩ := band h
      obtain ⟨h3, h⟩ := band h
      obtain ⟨h4, h⟩ := band h
      obtain ⟨h5, h6⟩ := band h
      obtain rfl := of_decide_eq_true h1
      obtain rfl := of_decide_eq_true h2
      obtain rfl := of_decide_eq_true h3
      obtain ⟨nm, bs, mro, ns, qn, hd, sn, sub, ab, col, del⟩ := cd
      dsimp only at e1 h4 h5
      subst e1 h5
      have h4' : del = false := by simpa using h4
      subst h4'
      obtain ⟨l⟩ := sl
      dsimp only at e2
      subst e2
      exact ⟨nm, qn, ns, bs, bm, sn, sub, ab, col, dd, k0, k1, k2, k3, k5, e0, h6⟩
    · cases h
  · cases h
structure XFacts (K : PySem.W.Frag) (mg : Str → Option Value) (x : Str) (C fI : Addr) (nw : String) (bB : List Value) (fs : List Str) : Prop where
  gC : mg x = some (.ref C)
  low : ExC K C nw bB
  xf : XfC K C
  xc : ExcC K C
  iC : PySem.W.findIn K (.ref C) "__init__" = some (some (.ref fI))
  tI : PySem.W.typeIn K (.ref fI) = some (.type "function")
  nof : ∀ f ∈ fs, PySem.W.findIn K (.ref C) f = some none
theorem classB_ok {K : PySem.W.Frag} {h : Heap} {mg : Str → Option Value} {x : Str} {bB : List Value} {nw : String} {fs : List Str} (X : K.In h) (G : h.Ns mainGlobals mg) (a : allB K = true) (c : classB K x bB nw fs = true) : XFacts K mg x (He.ga K x) (He.ma K (He.ga K x) "__init__") nw bB fs := by
  obtain ⟨a1, a2⟩ := band a
  obtain ⟨c1, c⟩ := band c
  obtain ⟨c2, c⟩ := band c
  obtain ⟨c3, c⟩ := band c
  obtain ⟨c4, c⟩ := band c
  obtain ⟨c5, c⟩ := band c
  obtain ⟨c6, c⟩ := band c
  obtain ⟨c7, c⟩ := band c
  obtain ⟨c8, c⟩ := band c
  obtain ⟨c9, c⟩ := band c
  obtain ⟨c10, c⟩ := band c
  obtain ⟨c11, c⟩ := band c
  obtain ⟨c12, c⟩ := band c
  obtain ⟨c13, c14⟩ := band c
  exact ⟨PySem.W.mg_of X G (of_decide_eq_true c1), ⟨clsB_ok c2, of_decide_eq_true c3, of_decide_eq_true c4, of_decide_eq_true c5, c6⟩, ⟨of_decide_eq_true c7, of_decide_eq_true c8, of_decide_eq_true c4, c9⟩,
    ⟨of_decide_eq_true c7, of_decide_eq_true c8, of_decide_eq_true c4, c9, of_decide_eq_true c10, of_decide_eq_true a1, of_decide_eq_true a2, of_decide_eq_true c11⟩, of_decide_eq_true c12, of_decide_eq_true c13, fun f hf => of_decide_eq_true (List.all_eq_true.mp c14 f hf)⟩
end Hv
set_option Elab.async false
set_option linter.all false
set_option maxRecDepth 100000
set_option maxHeartbeats 4000000
namespace Hv
open PySem PySem.Spec PyProof.Rows L2
/-! ## repr of such data -/
def reprQR (K : PySem.W.Frag) : List V → Hp → VK → Prop := fun xs H Q => ∃ x d, xs = [x] ∧ Dq K H x d ∧ d.showable = true ∧ d.depth ≤ 60 ∧ d.shown.length ≤ sizeLine ∧ Q (.str d.shown) H
theorem reprQ {X : Cx} {K : PySem.W.Frag} (hK : X.K = K) (M : Sm K) (hu : X.A.units + 65 < cLine) (hG : X.A.guards = some []) : CallR X (.builtin "repr") (reprQR K) := by
  subst hK
  intro pins s σ H xs us Q I r h
  obtain ⟨x, d, rfl, hd, hs, hdep, hz, q⟩ := h
  obtain ⟨u, rfl, rx⟩ := vals1 r
  have fin : ∀ (t : Tok) (tk : Nat), EP X pins σ Q (.str d.shown t) { s with toks := tk } := fun t tk => ⟨.str d.shown, H, I.tok _, ⟨t, rfl⟩, q⟩
  obtain ⟨as, rd, no⟩ := Dq.reads I M d x u hd rx
  have obj : ∀ a : Addr, u = .ref a → wpAny (model X.prog X.w) X.A (call (.builtin "repr") [u]) (EP X pins σ Q) X.xe s := fun a e => by
    subst e
    exact repr_of_reads' rd hs (fun _ => no) hG (by omega) (fun _ _ e => e) (fun h' t tk k => ⟨.str _, H, I.kept k, ⟨t, rfl⟩, q⟩) hz
  cases hd with
  | non => (obtain rfl : u = Value.none := rx; exact PySem.P.repr_of_none (fin _ _))
  | bl b => (obtain rfl : u = Value.bool b := rx; exact PySem.P.repr_of_bool (fin _ _))
  | int i => (obtain ⟨t, rfl⟩ := rx; exact PySem.P.repr_of_int (by simpa [PyData.showable] using hs) (fin _ _))
  | str y => (obtain ⟨t, rfl⟩ := rx; exact PySem.P.repr_of_str (fin _ _) hz)
  | lst _ _ => exact obj _ rx
  | tup _ _ => exact obj _ rx
  | dnil _ => exact obj _ rx
  | done _ _ => exact obj _ rx
/-! ## small data -/
/-- so deep and so great at most -/
structure Fine (n w : Nat) (d : PyData) : Prop where
  sh : d.leavesShort 64 = true
  sb : d.showable = true
  dp : d.depth ≤ n
  wt : d.weight ≤ w
theorem Fine.size {n w : Nat} {d : PyData} (h : Fine n w d) (hw : w ≤ 100000) : d.shown.length ≤ sizeLine := by
  have := PyData.shown_le 64 (by decide) d h.sh
  have := h.wt
  rw [sizeLine_eq]
  omega
theorem Fine.le {n w n' w' : Nat} {d : PyData} (h : Fine n w d) (a : n ≤ n') (b : w ≤ w') : Fine n' w' d := ⟨h.sh, h.sb, Nat.le_trans h.dp a, Nat.le_trans h.wt b⟩
theorem fine_list {n w : Nat} : ∀ {ds : List PyData}, (∀ d ∈ ds, Fine n w d) → PyData.leavesShortAll 64 ds = true ∧ PyData.showableAll ds = true ∧ PyData.depthAll ds ≤ n ∧ PyData.weightAll ds ≤ ds.length * (w + 1)
  | [], _ => ⟨rfl, rfl, Nat.zero_le _, by simp [PyData.weightAll]⟩
  | d :: ds, h => by
    obtain ⟨a1, a2, a3, a4⟩ := fine_list (ds := ds) fun e he => h e (.tail _ he)
    obtain ⟨b1, b2, b3, b4⟩ := h d (.head _)
    refine ⟨by simp only [PyData.leavesShortAll, a1, b1, Bool.and_self], by simp only [PyData.showableAll, a2, b2, Bool.and_self], ?_, ?_⟩
    · simp only [PyData.depthAll]; omega
    · simp only [PyData.weightAll, List.length_cons, Nat.succ_mul]; omega
theorem Fine.list {n w : Nat} {ds : List PyData} (h : ∀ d ∈ ds, Fine n w d) : Fine (n + 1) (ds.length * (w + 1)) (.list ds) := by
  obtain ⟨a1, a2, a3, a4⟩ := fine_list h
  exact ⟨a1, a2, by simp only [PyData.depth]; omega, a4⟩
theorem Fine.tuple {n w : Nat} {ds : List PyData} (h : ∀ d ∈ ds, Fine n w d) : Fine (n + 1) (ds.length * (w + 1)) (.tuple ds) := by
  obtain ⟨a1, a2, a3, a4⟩ := fine_list h
  exact ⟨a1, a2, by simp only [PyData.depth]; omega, a4⟩
theorem Fine.dict {n w : Nat} {d : PyData} {k : Str} (hk : (PyData.str k).leavesShort 64 = true) (kw : k.cps.size ≤ 8) (h : Fine n w d) : Fine (n + 1) (w + 12) (.dict [(.str k, d)]) := by
  obtain ⟨a1, a2, a3, a4⟩ := h
  refine ⟨by simp only [PyData.leavesShort, PyData.leavesShortKv, a1, Bool.and_true]; simpa [PyData.leavesShort] using hk, by simp only [PyData.showable, PyData.showableKv, a2, Bool.and_self], ?_, ?_⟩
  · simp only [PyData.depth, PyData.depthKv]; omega
  · simp only [PyData.weight, PyData.weightKv]; omega
theorem fine_int {i : Int} (h : i.natAbs < 10 ^ 40) : Fine 0 140 (.int i) := by
  have hl : i.natAbs.log2 < 133 := by
    by_cases z : i.natAbs = 0
    · rw [z]; decide
    · exact (Nat.log2_lt z).mpr (Nat.lt_of_lt_of_le h (by decide))
  refine ⟨?_, ?_, Nat.le_refl _, ?_⟩
  · have e := int_text_length_le10 (k := 40) (by decide) h
    have e2 : (PyData.shown (.int i)).length ≤ 41 := by
      show (Str.ofString (toString i)).length ≤ 41
      rw [PySem.ofString_length]
      exact e
    simp only [PyData.leavesShort, decide_eq_true_eq]
    omega
  · simp only [PyData.showable, decide_eq_true_eq]; omega
  · simp only [PyData.weight]; split <;> omega
end Hv
set_option Elab.async false
set_option linter.all false
set_option maxRecDepth 100000
set_option maxHeartbeats 4000000
namespace Fu
open PySem PySem.Spec PyProof.Rows L2 Hv
/-! # values as trees -/
/-- a slot: nothing known, a value that stays, an object of the slot's own that may change -/
inductive Sl where
  | no | fr (t : T) | ow (t : T)
/-- a cell: whether it is locked, what it holds -/
abbrev Cel := Bool × T
structure Ev where
  env : List Sl
  st : List Cel
/-- what an instance's class must be for its attributes to be read -/
structure CI (K : PySem.W.Frag) (C : Addr) (fs : List (Str × V)) : Prop where
  cls : Cls K C
  no : ∀ p ∈ fs, NoAttr K C p.1
  ha : PySem.W.findIn K (.ref C) "__class__" = some (some (.builtin "object.__class__"))
  hn : PySem.W.specialIn K (.builtin "object.__class__") "__get__" = some (some (.builtin "getset_descriptor.__get__"))
  ht : PySem.W.takesIn K (.builtin "object.__class__") = some true
  hm : PySem.W.mroIn K C (.type "object") = some true
mutual
inductive TV (K : PySem.W.Frag) (mg : Str → Option Value) (as : List Addr) (G : Hp) : T → V → Prop
  | non : TV K mg as G .non .non
  | bl (b : Bool) : TV K mg as G (.bl b) (.bl b)
  | int (i : Int) : TV K mg as G (.int i) (.int i)
  | str (x : Str) : TV K mg as G (.str x) (.str x)
  | ty (n : String) : TV K mg as G (.ty n) (.ty n)
  | scr {a : Addr} {ns : List Int} : SqL K G a (ns.map V.int) → TV K mg as G (.scr ns) (.ref a)
  | lst {a : Addr} {vs : List V} {ts : List T} : G a = some (.lst vs) → TVs K mg as G ts vs → TV K mg as G (.lst ts) (.ref a)
  | tup {a : Addr} {vs : List V} {ts : List T} : SqT K G a vs → TVs K mg as G ts vs → TV K mg as G (.tup ts) (.ref a)
  | dct {a : Addr} {o : Obj} {kvs : List (Key × V)} {kts : List (Key × T)} : G a = some (.frz o (.dK kvs)) → kts.map (·.1) = kvs.map (·.1) → TVs K mg as G (kts.map (·.2)) (kvs.map (·.2)) → TV K mg as G (.dct kts) (.ref a)
  | ins {a C dx : Addr} {c : Str} {fs : List (Str × V)} {fts : List (Str × T)} : mg c = some (.ref C) → CI K C fs → G a = some (.ins C dx fs) → fts.map (·.1) = fs.map (·.1) → TVs K mg as G (fts.map (·.2)) (fs.map (·.2)) → TV K mg as G (.ins c fts) (.ref a)
  | glob {x : Str} {a : Addr} : mg x = some (.ref a) → TV K mg as G (.glob x) (.ref a)
  | cell {k : Nat} {a : Addr} : as[k]? = some a → TV K mg as G (.cell k) (.ref a)
  | exc {a C : Addr} {c : Str} : mg c = some (.ref C) → TV K mg as G (.exc a none c []) (.ref a)
  | excD {a n C : Addr} {c : Str} {fs : List (Str × V)} {fts : List (Str × T)} : mg c = some (.ref C) → G n = some (.xd fs) → fts.map (·.1) = fs.map (·.1) → TVs K mg as G (fts.map (·.2)) (fs.map (·.2)) → TV K mg as G (.exc a (some n) c fts) (.ref a)
  | ev {a C : Addr} {c : Str} {fs : List (Str × V)} {fts : List (Str × T)} : mg c = some (.ref C) → ExV G a C fs → fts.map (·.1) = fs.map (·.1) → TVs K mg as G (fts.map (·.2)) (fs.map (·.2)) → TV K mg as G (.ev c fts) (.ref a)
inductive TVs (K : PySem.W.Frag) (mg : Str → Option Value) (as : List Addr) (G : Hp) : List T → List V → Prop
  | nil : TVs K mg as G [] []
  | cons {t : T} {ts : List T} {v : V} {vs : List V} : TV K mg as G t v → TVs K mg as G ts vs → TVs K mg as G (t :: ts) (v :: vs)
end
section
variable {K : PySem.W.Frag} {mg : Str → Option Value} {as as' : List Addr} {G G' H H' : Hp}
/-- more is known: further cells, further objects that stay -/
structure Ext (as : List Addr) (G : Hp) (as' : List Addr) (G' : Hp) : Prop where
  more : ∃ m, as' = as ++ m
  g : Same G G'
theorem Ext.refl : Ext as G as G := ⟨⟨[], by simp⟩, Same.refl _⟩
theorem Ext.trans {as1 as2 as3 : List Addr} {G1 G2 G3 : Hp} (a : Ext as1 G1 as2 G2) (b : Ext as2 G2 as3 G3) : Ext as1 G1 as3 G3 := by
  obtain ⟨⟨m, e⟩, g⟩ := a
  obtain ⟨⟨n, e2⟩, g2⟩ := b
  exact ⟨⟨m ++ n, by rw [e2, e, List.append_assoc]⟩, g.trans g2⟩
theorem Ext.new {p : Addr} {o : HO} (hp : G p = none) : Ext as G as (upd G p o) := ⟨⟨[], by simp⟩, fun b u e => by rw [upd_ne (ne_of_none e hp)]; exact e⟩
theorem ext_get {m : List Addr} {k : Nat} {a : Addr} (h : as[k]? = some a) : (as ++ m)[k]? = some a := by
  obtain ⟨hl, e⟩ := List.getElem?_eq_some_iff.mp h
  rw [List.getElem?_append_left hl]
  exact h
mutual
theorem TV.mono (x : Ext as G as' G') : ∀ {t : T} {v : V}, TV K mg as G t v → TV K mg as' G' t v
  | _, _, .non => .non
  | _, _, .bl b => .bl b
  | _, _, .int i => .int i
  | _, _, .str z => .str z
  | _, _, .ty n => .ty n
  | _, _, .scr h => .scr (SqL.le x.g h)
  | _, _, .lst h a => .lst (x.g _ _ h) (TVs.mono x a)
  | _, _, .tup h a => .tup (SqT.le x.g h) (TVs.mono x a)
  | _, _, .dct h e a => .dct (x.g _ _ h) e (TVs.mono x a)
  | _, _, .ins m ci h e a => .ins m ci (x.g _ _ h) e (TVs.mono x a)
  | _, _, .glob m => .glob m
  | _, _, .cell h => .cell (by obtain ⟨m, e⟩ := x.more; rw [e]; exact ext_get h)
  | _, _, .exc h => .exc h
  | _, _, .excD h g e a => .excD h (x.g _ _ g) e (TVs.mono x a)
  | _, _, .ev h g e a => .ev h (g.le x.g) e (TVs.mono x a)
theorem TVs.mono (x : Ext as G as' G') : ∀ {ts : List T} {vs : List V}, TVs K mg as G ts vs → TVs K mg as' G' ts vs
  | _, _, .nil => .nil
  | _, _, .cons a b => .cons (TV.mono x a) (TVs.mono x b)
end
theorem TVs.length : ∀ {ts : List T} {vs : List V}, TVs K mg as G ts vs → ts.length = vs.length
  | _, _, .nil => rfl
  | _, _, .cons _ b => congrArg (· + 1) (TVs.length b)
theorem TVs.get : ∀ {ts : List T} {vs : List V} {i : Nat} {t : T}, TVs K mg as G ts vs → ts[i]? = some t → ∃ v, vs[i]? = some v ∧ TV K mg as G t v
  | _, _, 0, _, .cons a _, e => by cases e; exact ⟨_, rfl, a⟩
  | _, _, i + 1, _, .cons _ b, e => TVs.get (i := i) b e
  | _, _, _, _, .nil, e => by simp at e
theorem TVs.get' : ∀ {ts : List T} {vs : List V} {i : Nat} {v : V}, TVs K mg as G ts vs → vs[i]? = some v → ∃ t, ts[i]? = some t ∧ TV K mg as G t v
  | _, _, 0, _, .cons a _, e => by cases e; exact ⟨_, rfl, a⟩
  | _, _, i + 1, _, .cons _ b, e => TVs.get' (i := i) b e
  | _, _, _, _, .nil, e => by simp at e
theorem TVs.app : ∀ {ts us : List T} {vs ws : List V}, TVs K mg as G ts vs → TVs K mg as G us ws → TVs K mg as G (ts ++ us) (vs ++ ws)
  | _, _, _, _, .nil, h => h
  | _, _, _, _, .cons a b, h => .cons a (TVs.app b h)
theorem TVs.set {x : T} {v : V} (h : TV K mg as G x v) : ∀ {ts : List T} {vs : List V} (i : Nat), TVs K mg as G ts vs → TVs K mg as G (ts.set i x) (vs.set i v)
  | _, _, _, .nil => .nil
  | _, _, 0, .cons _ b => .cons h b
  | _, _, i + 1, .cons a b => .cons a (TVs.set h i b)
theorem TVs.erase : ∀ {ts : List T} {vs : List V} (i : Nat), TVs K mg as G ts vs → TVs K mg as G (ts.eraseIdx i) (vs.eraseIdx i)
  | _, _, _, .nil => .nil
  | _, _, 0, .cons _ b => b
  | _, _, i + 1, .cons a b => .cons a (TVs.erase i b)
theorem TVs.take : ∀ {ts : List T} {vs : List V} (n : Nat), TVs K mg as G ts vs → TVs K mg as G (ts.take n) (vs.take n)
  | _, _, 0, _ => .nil
  | _, _, _ + 1, .nil => .nil
  | _, _, n + 1, .cons a b => .cons a (TVs.take n b)
theorem TVs.drop : ∀ {ts : List T} {vs : List V} (n : Nat), TVs K mg as G ts vs → TVs K mg as G (ts.drop n) (vs.drop n)
  | _, _, 0, h => h
  | _, _, _ + 1, .nil => .nil
  | _, _, n + 1, .cons _ b => TVs.drop n b
theorem TVs.rep : ∀ {ts : List T} {vs : List V} (n : Nat), TVs K mg as G ts vs → TVs K mg as G (List.replicate n ts).flatten (List.replicate n vs).flatten
  | _, _, 0, _ => .nil
  | _, _, n + 1, h => TVs.app h (TVs.rep n h)
theorem TVs.cons' {t : T} {ts : List T} {vs : List V} (h : TVs K mg as G (t :: ts) vs) : ∃ v us, vs = v :: us ∧ TV K mg as G t v ∧ TVs K mg as G ts us := by
  cases h with
  | cons a b => exact ⟨_, _, rfl, a, b⟩
theorem TVs.nil' {vs : List V} (h : TVs K mg as G [] vs) : vs = [] := by cases h; rfl
/-- what an object of one's own holds -/
inductive Obj' (K : PySem.W.Frag) (mg : Str → Option Value) (as : List Addr) (G : Hp) : T → HO → Prop
  | lst {ts : List T} {vs : List V} : TVs K mg as G ts vs → Obj' K mg as G (.lst ts) (.lst vs)
  | dct {kts : List (Key × T)} {kvs : List (Key × V)} : kts.map (·.1) = kvs.map (·.1) → TVs K mg as G (kts.map (·.2)) (kvs.map (·.2)) → Obj' K mg as G (.dct kts) (.dK kvs)
  | ins {C dx : Addr} {c : Str} {fs : List (Str × V)} {fts : List (Str × T)} : mg c = some (.ref C) → CI K C fs → fts.map (·.1) = fs.map (·.1) → TVs K mg as G (fts.map (·.2)) (fs.map (·.2)) → Obj' K mg as G (.ins c fts) (.ins C dx fs)
theorem Obj'.mono (x : Ext as G as' G') {t : T} {o : HO} (h : Obj' K mg as G t o) : Obj' K mg as' G' t o := by
  cases h with
  | lst a => exact .lst (a.mono x)
  | dct e a => exact .dct e (a.mono x)
  | ins m ci e a => exact .ins m ci e (a.mono x)
theorem Obj'.mut {t : T} {o : HO} (h : Obj' K mg as G t o) : Mut (some o) := by cases h <;> trivial
/-- at a: o, locked or not -/
def Ats (H : Hp) (lk : Bool) (a : Addr) (o : HO) : Prop := if lk = true then ∃ ob, H a = some (.frz ob o) else H a = some o
theorem Ats.some {lk : Bool} {a : Addr} {o : HO} (h : Ats H lk a o) : H a ≠ none := by
  unfold Ats at h
  split at h
  · obtain ⟨ob, e⟩ := h; rw [e]; exact fun z => nomatch z
  · rw [h]; exact fun z => nomatch z
theorem Ats.rd {lk : Bool} {a : Addr} {o : HO} (h : Ats H lk a o) : Rd H a o := by
  unfold Ats at h
  split at h
  · exact .inr h
  · exact .inl h
/-- the cells -/
structure RelS (K : PySem.W.Frag) (mg : Str → Option Value) (as : List Addr) (G : Hp) (st : List Cel) (H : Hp) : Prop where
  sub : Same G H
  nd : as.Nodup
  len : as.length = st.length
  cell : ∀ (k : Nat) (c : Cel) (a : Addr), st[k]? = some c → as[k]? = some a → G a = none ∧ ∃ o, Obj' K mg as G c.2 o ∧ Ats H c.1 a o
theorem RelS.at {st : List Cel} (R : RelS K mg as G st H) {k : Nat} {c : Cel} (h : st[k]? = some c) : ∃ a o, as[k]? = some a ∧ G a = none ∧ Obj' K mg as G c.2 o ∧ Ats H c.1 a o := by
  obtain ⟨hl, _⟩ := List.getElem?_eq_some_iff.mp h
  have e : as[k]? = some (as[k]'(by rw [R.len]; exact hl)) := List.getElem?_eq_getElem _
  obtain ⟨g, o, ho, at_⟩ := R.cell k c _ h e
  exact ⟨_, o, e, g, ho, at_⟩
theorem RelS.mem {st : List Cel} (R : RelS K mg as G st H) {a : Addr} (h : a ∈ as) : H a ≠ none ∧ G a = none := by
  obtain ⟨k, hk, e⟩ := List.getElem_of_mem h
  have e2 : as[k]? = some a := by rw [List.getElem?_eq_getElem hk, e]
  have e3 : st[k]? = some (st[k]'(by rw [← R.len]; exact hk)) := List.getElem?_eq_getElem _
  obtain ⟨g, o, _, at_⟩ := R.cell k _ a e3 e2
  exact ⟨at_.some, g⟩
/-- what has happened between two states: further cells at new places, what stays stays, what is no cell is as it was -/
structure Chg (as : List Addr) (G H : Hp) (as' : List Addr) (G' H' : Hp) : Prop where
  more : ∃ m, as' = as ++ m ∧ ∀ a ∈ m, H a = none
  g : Same G G'
  gn : ∀ a, G' a ≠ none → G a ≠ none ∨ H a = none
  fr : ∀ a o, a ∉ as → H a = some o → H' a = some o
  keep : ∀ a, H' a = none → H a = none
  lk : ∀ a ob u, H a = some (.frz ob u) → H' a = some (.frz ob u)
theorem Chg.refl : Chg as G H as G H := ⟨⟨[], by simp⟩, Same.refl _, fun _ z => .inl z, fun _ _ _ z => z, fun _ z => z, fun _ _ _ z => z⟩
theorem Chg.trans {as1 as2 as3 : List Addr} {G1 G2 G3 H1 H2 H3 : Hp} (a : Chg as1 G1 H1 as2 G2 H2) (b : Chg as2 G2 H2 as3 G3 H3) : Chg as1 G1 H1 as3 G3 H3 := by
  obtain ⟨m, e, hm⟩ := a.more
  obtain ⟨n, e2, hn⟩ := b.more
  refine ⟨⟨m ++ n, by rw [e2, e, List.append_assoc], fun c hc => ?_⟩, a.g.trans b.g, fun c hc => ?_, fun c o hc ho => ?_, fun c hc => a.keep c (b.keep c hc), fun c ob u h => b.lk c ob u (a.lk c ob u h)⟩
  · rcases List.mem_append.mp hc with h | h
    · exact hm c h
    · exact a.keep c (hn c h)
  · rcases b.gn c hc with h | h
    · exact a.gn c h
    · exact .inr (a.keep c h)
  · refine b.fr c o (fun h => ?_) (a.fr c o hc ho)
    rw [e] at h
    rcases List.mem_append.mp h with h | h
    · exact hc h
    · have := hm c h
      rw [ho] at this
      cases this
theorem Chg.ext (c : Chg as G H as' G' H') : Ext as G as' G' := by
  obtain ⟨m, e, _⟩ := c.more
  exact ⟨⟨m, e⟩, c.g⟩
/-- a new object is laid that stays -/
theorem Chg.fz {p : Addr} {o : HO} (s : Same G H) (hp : H p = none) : Chg as G H as (upd G p o) (upd H p o) := by
  have gp : G p = none := s.free hp
  refine ⟨⟨[], by simp⟩, fun b u e => by rw [upd_ne (ne_of_none e gp)]; exact e, fun a h => ?_, fun a u _ e => by rw [upd_ne (ne_of_none e hp)]; exact e, fun a h => ?_, fun a ob u e => by rw [upd_ne (ne_of_none e hp)]; exact e⟩
  · by_cases e : a = p
    · exact .inr (by rw [e]; exact hp)
    · rw [upd_ne e] at h; exact .inl h
  · by_cases e : a = p
    · rw [e]; exact hp
    · rw [upd_ne e] at h; exact h
/-- a new object is laid that may change -/
theorem Chg.new {p : Addr} {o : HO} (hp : H p = none) : Chg as G H as G (upd H p o) := by
  refine ⟨⟨[], by simp⟩, Same.refl _, fun a h => .inl h, fun a u _ e => by rw [upd_ne (ne_of_none e hp)]; exact e, fun a h => ?_, fun a ob u e => by rw [upd_ne (ne_of_none e hp)]; exact e⟩
  by_cases e : a = p
  · rw [e]; exact hp
  · rw [upd_ne e] at h; exact h
/-- a cell is changed -/
theorem Chg.put {p : Addr} {o : HO} (hp : p ∈ as) (nf : ∀ ob u, H p ≠ some (.frz ob u)) : Chg as G H as G (upd H p o) := by
  refine ⟨⟨[], by simp⟩, Same.refl _, fun a h => .inl h, fun a u n e => by rw [upd_ne (fun z => n (by rw [z]; exact hp))]; exact e, fun a h => ?_, fun a ob u e => by rw [upd_ne (fun z => nf ob u (by rw [← z]; exact e))]; exact e⟩
  by_cases e : a = p
  · rw [e, upd_same] at h; cases h
  · rw [upd_ne e] at h; exact h
/-- a cell is changed -/
theorem RelS.put {st : List Cel} (R : RelS K mg as G st H) {k : Nat} {t u : T} {a : Addr} {o : HO} (h : st[k]? = some (false, t)) (ea : as[k]? = some a) (ho : Obj' K mg as G u o) : RelS K mg as G (st.set k (false, u)) (upd H a o) := by
  have hk : k < st.length := (List.getElem?_eq_some_iff.mp h).1
  refine ⟨fun b x e => ?_, R.nd, by rw [List.length_set]; exact R.len, fun j c b hj hb => ?_⟩
  · have : G a = none := (R.cell k _ a h ea).1
    rw [upd_ne (ne_of_none e this)]
    exact R.sub b x e
  · by_cases e : j = k
    · subst e
      rw [ea] at hb
      cases hb
      rw [List.getElem?_set_self hk] at hj
      cases hj
      exact ⟨(R.cell _ _ _ h ea).1, o, ho, by unfold Ats; rw [if_neg (by simp)]; exact upd_same⟩
    · rw [List.getElem?_set_ne (fun z => e z.symm)] at hj
      obtain ⟨g, x, hx, at_⟩ := R.cell j c b hj hb
      refine ⟨g, x, hx, ?_⟩
      have nb : b ≠ a := fun z => by
        subst z
        obtain ⟨h1, e1⟩ := List.getElem?_eq_some_iff.mp ea
        obtain ⟨h2, e2⟩ := List.getElem?_eq_some_iff.mp hb
        exact e ((List.getElem_inj R.nd).mp (e2.trans e1.symm))
      unfold Ats at at_ ⊢
      rw [upd_ne nb]
      exact at_
/-- a new object is laid that stays -/
theorem RelS.fz {st : List Cel} (R : RelS K mg as G st H) {p : Addr} {o : HO} (hp : H p = none) : RelS K mg as (upd G p o) st (upd H p o) := by
  have gp : G p = none := R.sub.free hp
  refine ⟨fun b x e => ?_, R.nd, R.len, fun k c a hk ha => ?_⟩
  · by_cases q : b = p
    · subst q; rw [upd_same] at e ⊢; exact e
    · rw [upd_ne q] at e ⊢; exact R.sub b x e
  · obtain ⟨g, x, hx, at_⟩ := R.cell k c a hk ha
    have na : a ≠ p := fun z => by rw [z] at at_; exact at_.some hp
    refine ⟨by rw [upd_ne na]; exact g, x, hx.mono (Ext.new gp), ?_⟩
    unfold Ats at at_ ⊢
    rw [upd_ne na]
    exact at_
/-- another object, no cell, is changed -/
theorem RelS.oth {st : List Cel} (R : RelS K mg as G st H) {p : Addr} {o : HO} (hg : G p = none) (ha : p ∉ as) : RelS K mg as G st (upd H p o) := by
  refine ⟨fun b x e => ?_, R.nd, R.len, fun k c a hk ea => ?_⟩
  · rw [upd_ne (ne_of_none e hg)]; exact R.sub b x e
  · obtain ⟨g, x, hx, at_⟩ := R.cell k c a hk ea
    have na : a ≠ p := fun z => ha (by rw [← z]; exact List.mem_of_getElem? ea)
    refine ⟨g, x, hx, ?_⟩
    unfold Ats at at_ ⊢
    rw [upd_ne na]
    exact at_
/-- an object that is no cell comes to stay -/
theorem RelS.stay {st : List Cel} (R : RelS K mg as G st H) {p : Addr} {o u : HO} (hg : G p = none) (ha : p ∉ as) : RelS K mg as (upd G p u) st (upd H p u) := by
  refine ⟨fun b x e => ?_, R.nd, R.len, fun k c a hk ea => ?_⟩
  · by_cases q : b = p
    · subst q; rw [upd_same] at e ⊢; exact e
    · rw [upd_ne q] at e ⊢; exact R.sub b x e
  · obtain ⟨g, x, hx, at_⟩ := R.cell k c a hk ea
    have na : a ≠ p := fun z => ha (by rw [← z]; exact List.mem_of_getElem? ea)
    refine ⟨by rw [upd_ne na]; exact g, x, hx.mono (Ext.new hg), ?_⟩
    unfold Ats at at_ ⊢
    rw [upd_ne na]
    exact at_
/-- a new cell -/
theorem RelS.box {st : List Cel} (R : RelS K mg as G st H) {p : Addr} {t : T} {o : HO} (hg : G p = none) (ha : p ∉ as) (hp : H p = some o) (ho : Obj' K mg as G t o) : RelS K mg (as ++ [p]) G (st ++ [(false, t)]) H := by
  have x : Ext as G (as ++ [p]) G := ⟨⟨[p], rfl⟩, Same.refl _⟩
  refine ⟨R.sub, ?_, by simp [R.len], fun k c a hk ea => ?_⟩
  · rw [List.nodup_append]
    exact ⟨R.nd, by simp, fun b hb c hc e => ha (by rw [← List.mem_singleton.mp hc, ← e]; exact hb)⟩
  · by_cases hl : k < as.length
    · rw [List.getElem?_append_left hl] at ea
      rw [List.getElem?_append_left (by rw [← R.len]; exact hl)] at hk
      obtain ⟨g, o, h1, h2⟩ := R.cell k c a hk ea
      exact ⟨g, o, h1.mono x, h2⟩
    · have e : k = as.length := by
        have := (List.getElem?_eq_some_iff.mp ea).1
        rw [List.length_append] at this
        simp at this
        omega
      subst e
      rw [List.getElem?_append_right (Nat.le_refl _), Nat.sub_self] at ea
      rw [R.len, List.getElem?_append_right (Nat.le_refl _), Nat.sub_self] at hk
      cases ea
      cases hk
      exact ⟨hg, o, ho.mono x, by unfold Ats; rw [if_neg (by simp)]; exact hp⟩
end
/-- the entry of a def -/
structure En where
  as : List Addr
  G : Hp
  H : Hp
section
variable {K : PySem.W.Frag} {mg : Str → Option Value}
/-- an object of one's own at v -/
structure Own (K : PySem.W.Frag) (mg : Str → Option Value) (D : En) (as : List Addr) (G H : Hp) (t : T) (a : Addr) : Prop where
  ob : ∃ o, H a = some o ∧ Obj' K mg as G t o
  g : G a = none
  na : a ∉ as
  new : D.H a = none
/-- the state of a def that runs: cells, slots -/
structure Rel (K : PySem.W.Frag) (mg : Str → Option Value) (D : En) (as : List Addr) (G : Hp) (ev : Ev) (σ : L2.St) (H : Hp) : Prop where
  s : RelS K mg as G ev.st H
  c : Chg D.as D.G D.H as G H
  len : ev.env.length = σ.length
  fr : ∀ (i : Nat) (t : T), ev.env[i]? = some (.fr t) → ∃ v, σ[i]? = some (some v) ∧ TV K mg as G t v
  ow : ∀ (i : Nat) (t : T), ev.env[i]? = some (.ow t) → ∃ a, σ[i]? = some (some (.ref a)) ∧ Own K mg D as G H t a
  sep : ∀ (i j : Nat) (t u : T) (a : Addr), ev.env[i]? = some (.ow t) → ev.env[j]? = some (.ow u) → σ[i]? = some (some (.ref a)) → σ[j]? = some (some (.ref a)) → i = j
/-- the addresses of the slots' own objects -/
def InOw (ev : Ev) (σ : L2.St) (a : Addr) : Prop := ∃ (i : Nat) (t : T), ev.env[i]? = some (.ow t) ∧ σ[i]? = some (some (.ref a))
variable {D : En} {as as' : List Addr} {G G' H H' : Hp} {ev ev' : Ev} {σ : L2.St}
theorem Own.mono (x : Ext as G as G') {t : T} {a : Addr} (o : Own K mg D as G H t a) (hg : G' a = none) (hh : H' a = H a) : Own K mg D as G' H' t a := by
  obtain ⟨o', h1, h2⟩ := o.ob
  exact ⟨⟨o', by rw [hh]; exact h1, h2.mono x⟩, hg, o.na, o.new⟩
/-- a new object is laid that stays -/
theorem Rel.fz (R : Rel K mg D as G ev σ H) {p : Addr} {o : HO} (hp : H p = none) : Rel K mg D as (upd G p o) ev σ (upd H p o) := by
  have gp : G p = none := R.s.sub.free hp
  refine ⟨R.s.fz hp, R.c.trans (Chg.fz R.s.sub hp), R.len, fun i t e => ?_, fun i t e => ?_, R.sep⟩
  · obtain ⟨v, h1, h2⟩ := R.fr i t e
    exact ⟨v, h1, h2.mono (Ext.new gp)⟩
  · obtain ⟨a, h1, h2⟩ := R.ow i t e
    have na : a ≠ p := fun z => by obtain ⟨o', q, _⟩ := h2.ob; rw [z, hp] at q; cases q
    exact ⟨a, h1, h2.mono (Ext.new gp) (by rw [upd_ne na]; exact h2.g) (upd_ne na)⟩
/-- a new object is laid -/
theorem Rel.new (R : Rel K mg D as G ev σ H) {p : Addr} {o : HO} (hp : H p = none) : Rel K mg D as G ev σ (upd H p o) := by
  have gp : G p = none := R.s.sub.free hp
  refine ⟨R.s.oth gp (fun z => (R.s.mem z).1 hp), R.c.trans (Chg.new hp), R.len, R.fr, fun i t e => ?_, R.sep⟩
  obtain ⟨a, h1, h2⟩ := R.ow i t e
  have na : a ≠ p := fun z => by obtain ⟨o', q, _⟩ := h2.ob; rw [z, hp] at q; cases q
  exact ⟨a, h1, h2.mono Ext.refl h2.g (upd_ne na)⟩
theorem Rel.own (R : Rel K mg D as G ev σ H) {p : Addr} {t : T} {o : HO} (hp : H p = none) (ho : Obj' K mg as G t o) : Own K mg D as G (upd H p o) t p :=
  ⟨⟨o, upd_same, ho⟩, R.s.sub.free hp, fun z => (R.s.mem z).1 hp, R.c.keep p hp⟩
theorem Rel.notOw (R : Rel K mg D as G ev σ H) {p : Addr} (hp : H p = none) : ¬ InOw ev σ p := by
  rintro ⟨i, t, e1, e2⟩
  obtain ⟨a, h1, h2⟩ := R.ow i t e1
  rw [e2] at h1
  cases h1
  obtain ⟨o', q, _⟩ := h2.ob
  rw [hp] at q
  cases q
/-- an object of one's own comes to stay -/
theorem Rel.stay (R : Rel K mg D as G ev σ H) {p : Addr} {t : T} (u : HO) (O : Own K mg D as G H t p) (hw : ¬ InOw ev σ p) : Rel K mg D as (upd G p u) ev σ (upd H p u) := by
  have gp : G p = none := O.g
  refine ⟨R.s.stay (o := u) gp O.na, ?_, R.len, fun i t e => ?_, fun i t e => ?_, R.sep⟩
  · refine ⟨R.c.more, R.c.g.trans (Ext.new (as := as) gp).g, fun a h => ?_, fun a o n e => ?_, fun a h => ?_, fun a ob u e => by rw [upd_ne (ne_of_none e O.new)]; exact R.c.lk a ob u e⟩
    · by_cases q : a = p
      · exact .inr (by rw [q]; exact O.new)
      · rw [upd_ne q] at h; exact R.c.gn a h
    · have : a ≠ p := fun z => by rw [z, O.new] at e; cases e
      rw [upd_ne this]; exact R.c.fr a o n e
    · by_cases q : a = p
      · rw [q, upd_same] at h; cases h
      · rw [upd_ne q] at h; exact R.c.keep a h
  · obtain ⟨v, h1, h2⟩ := R.fr i t e
    exact ⟨v, h1, h2.mono (Ext.new gp)⟩
  · obtain ⟨a, h1, h2⟩ := R.ow i t e
    have na : a ≠ p := fun z => hw ⟨i, t, e, by rw [← z]; exact h1⟩
    exact ⟨a, h1, h2.mono (Ext.new gp) (by rw [upd_ne na]; exact h2.g) (upd_ne na)⟩
theorem Ext.stay {p : Addr} {o : HO} (hg : G p = none) : Ext as G as (upd G p o) := Ext.new hg
/-- an object of one's own that is no slot's is changed -/
theorem Rel.chg (R : Rel K mg D as G ev σ H) {p : Addr} {t : T} {u : HO} (O : Own K mg D as G H t p) (hw : ¬ InOw ev σ p) : Rel K mg D as G ev σ (upd H p u) := by
  refine ⟨R.s.oth O.g O.na, ?_, R.len, R.fr, fun i t e => ?_, R.sep⟩
  · refine ⟨R.c.more, R.c.g, R.c.gn, fun a o n e => ?_, fun a h => ?_, fun a ob u e => by rw [upd_ne (ne_of_none e O.new)]; exact R.c.lk a ob u e⟩
    · have : a ≠ p := fun z => by rw [z, O.new] at e; cases e
      rw [upd_ne this]; exact R.c.fr a o n e
    · by_cases q : a = p
      · rw [q, upd_same] at h; cases h
      · rw [upd_ne q] at h; exact R.c.keep a h
  · obtain ⟨a, h1, h2⟩ := R.ow i t e
    have na : a ≠ p := fun z => hw ⟨i, t, e, by rw [← z]; exact h1⟩
    exact ⟨a, h1, h2.mono Ext.refl h2.g (upd_ne na)⟩
/-- a slot gives its object up -/
theorem Rel.drop (R : Rel K mg D as G ev σ H) {i : Nat} (s : Sl) (h : ∀ t, s ≠ .ow t) (hf : ∀ t, s = .fr t → ∃ v, σ[i]? = some (some v) ∧ TV K mg as G t v) : Rel K mg D as G { ev with env := ev.env.set i s } σ H := by
  have get : ∀ (j : Nat) (x : Sl), (ev.env.set i s)[j]? = some x → (j = i ∧ x = s) ∨ (j ≠ i ∧ ev.env[j]? = some x) := fun j x e => by
    by_cases q : j = i
    · subst q
      have hl : j < ev.env.length := by have := (List.getElem?_eq_some_iff.mp e).1; simpa using this
      rw [List.getElem?_set_self hl] at e
      cases e
      exact .inl ⟨rfl, rfl⟩
    · rw [List.getElem?_set_ne (fun z => q z.symm)] at e
      exact .inr ⟨q, e⟩
  refine ⟨R.s, R.c, by simp [R.len], fun j t e => ?_, fun j t e => ?_, fun j k t u a e1 e2 => ?_⟩
  · rcases get j _ e with ⟨rfl, q⟩ | ⟨_, q⟩
    · exact hf t q.symm
    · exact R.fr j t q
  · rcases get j _ e with ⟨rfl, q⟩ | ⟨_, q⟩
    · exact absurd q.symm (h t)
    · exact R.ow j t q
  · rcases get j _ e1 with ⟨_, q⟩ | ⟨_, q⟩
    · exact absurd q.symm (h t)
    rcases get k _ e2 with ⟨_, q2⟩ | ⟨_, q2⟩
    · exact absurd q2.symm (h u)
    exact R.sep j k t u a q q2
/-- a value is stored in a slot -/
theorem Rel.setF (R : Rel K mg D as G ev σ H) {i : Nat} {t : T} {v : V} (h : TV K mg as G t v) : Rel K mg D as G { ev with env := ev.env.set i (.fr t) } (σ.set i (some v)) H := by
  have get : ∀ (j : Nat) (x : Sl), (ev.env.set i (.fr t))[j]? = some x → (j = i ∧ x = .fr t ∧ i < ev.env.length) ∨ (j ≠ i ∧ ev.env[j]? = some x) := fun j x e => by
    by_cases q : j = i
    · subst q
      have hl : j < ev.env.length := by have := (List.getElem?_eq_some_iff.mp e).1; simpa using this
      rw [List.getElem?_set_self hl] at e
      cases e
      exact .inl ⟨rfl, rfl, hl⟩
    · rw [List.getElem?_set_ne (fun z => q z.symm)] at e
      exact .inr ⟨q, e⟩
  have ne : ∀ {j : Nat}, j ≠ i → (σ.set i (some v))[j]? = σ[j]? := fun q => List.getElem?_set_ne (fun z => q z.symm)
  refine ⟨R.s, R.c, by simp [R.len], fun j u e => ?_, fun j u e => ?_, fun j k u w a e1 e2 f1 f2 => ?_⟩
  · rcases get j _ e with ⟨rfl, q, hl⟩ | ⟨n, q⟩
    · cases q
      exact ⟨v, by rw [List.getElem?_set_self (by rw [← R.len]; exact hl)], h⟩
    · obtain ⟨x, h1, h2⟩ := R.fr j u q
      exact ⟨x, by rw [ne n]; exact h1, h2⟩
  · rcases get j _ e with ⟨_, q, _⟩ | ⟨n, q⟩
    · cases q
    · obtain ⟨x, h1, h2⟩ := R.ow j u q
      exact ⟨x, by rw [ne n]; exact h1, h2⟩
  · rcases get j _ e1 with ⟨_, q, _⟩ | ⟨n1, q1⟩
    · cases q
    rcases get k _ e2 with ⟨_, q, _⟩ | ⟨n2, q2⟩
    · cases q
    rw [ne n1] at f1
    rw [ne n2] at f2
    exact R.sep j k u w a q1 q2 f1 f2
/-- an object of one's own is stored in a slot -/
theorem Rel.setO (R : Rel K mg D as G ev σ H) {i : Nat} {t : T} {p : Addr} (O : Own K mg D as G H t p) (hw : ¬ InOw ev σ p) : Rel K mg D as G { ev with env := ev.env.set i (.ow t) } (σ.set i (some (.ref p))) H := by
  have get : ∀ (j : Nat) (x : Sl), (ev.env.set i (.ow t))[j]? = some x → (j = i ∧ x = .ow t ∧ i < ev.env.length) ∨ (j ≠ i ∧ ev.env[j]? = some x) := fun j x e => by
    by_cases q : j = i
    · subst q
      have hl : j < ev.env.length := by have := (List.getElem?_eq_some_iff.mp e).1; simpa using this
      rw [List.getElem?_set_self hl] at e
      cases e
      exact .inl ⟨rfl, rfl, hl⟩
    · rw [List.getElem?_set_ne (fun z => q z.symm)] at e
      exact .inr ⟨q, e⟩
  have ne : ∀ {j : Nat}, j ≠ i → (σ.set i (some (.ref p)))[j]? = σ[j]? := fun q => List.getElem?_set_ne (fun z => q z.symm)
  refine ⟨R.s, R.c, by simp [R.len], fun j u e => ?_, fun j u e => ?_, fun j k u w a e1 e2 f1 f2 => ?_⟩
  · rcases get j _ e with ⟨_, q, _⟩ | ⟨n, q⟩
    · cases q
    · obtain ⟨x, h1, h2⟩ := R.fr j u q
      exact ⟨x, by rw [ne n]; exact h1, h2⟩
  · rcases get j _ e with ⟨rfl, q, hl⟩ | ⟨n, q⟩
    · cases q
      exact ⟨p, by rw [List.getElem?_set_self (by rw [← R.len]; exact hl)], O⟩
    · obtain ⟨x, h1, h2⟩ := R.ow j u q
      exact ⟨x, by rw [ne n]; exact h1, h2⟩
  · rcases get j _ e1 with ⟨j1, _, hl⟩ | ⟨n1, q1⟩
    · rcases get k _ e2 with ⟨k1, _⟩ | ⟨n2, q2⟩
      · exact j1.trans k1.symm
      · rw [j1, List.getElem?_set_self (by rw [← R.len]; exact hl)] at f1
        cases f1
        rw [ne n2] at f2
        exact absurd ⟨k, w, q2, f2⟩ hw
    · rcases get k _ e2 with ⟨k1, _, hl⟩ | ⟨n2, q2⟩
      · rw [k1, List.getElem?_set_self (by rw [← R.len]; exact hl)] at f2
        cases f2
        rw [ne n1] at f1
        exact absurd ⟨j, u, q1, f1⟩ hw
      · rw [ne n1] at f1
        rw [ne n2] at f2
        exact R.sep j k u w a q1 q2 f1 f2
/-- the object of a slot is changed -/
theorem Rel.putO (R : Rel K mg D as G ev σ H) {i : Nat} {t u : T} {p : Addr} {o : HO} (hi : ev.env[i]? = some (.ow t)) (hp : σ[i]? = some (some (.ref p))) (ho : Obj' K mg as G u o) : Rel K mg D as G { ev with env := ev.env.set i (.ow u) } σ (upd H p o) := by
  obtain ⟨a, ea, O⟩ := R.ow i t hi
  rw [hp] at ea
  cases ea
  have hl : i < ev.env.length := (List.getElem?_eq_some_iff.mp hi).1
  have get : ∀ (j : Nat) (x : Sl), (ev.env.set i (.ow u))[j]? = some x → (j = i ∧ x = .ow u) ∨ (j ≠ i ∧ ev.env[j]? = some x) := fun j x e => by
    by_cases q : j = i
    · subst q
      rw [List.getElem?_set_self hl] at e
      cases e
      exact .inl ⟨rfl, rfl⟩
    · rw [List.getElem?_set_ne (fun z => q z.symm)] at e
      exact .inr ⟨q, e⟩
  refine ⟨R.s.oth O.g O.na, ?_, by simp [R.len], fun j w e => ?_, fun j w e => ?_, fun j k w z a e1 e2 f1 f2 => ?_⟩
  · refine ⟨R.c.more, R.c.g, R.c.gn, fun a o n e => ?_, fun a h => ?_, fun a ob u e => by rw [upd_ne (ne_of_none e O.new)]; exact R.c.lk a ob u e⟩
    · have : a ≠ p := fun z => by rw [z, O.new] at e; cases e
      rw [upd_ne this]; exact R.c.fr a o n e
    · by_cases q : a = p
      · rw [q, upd_same] at h; cases h
      · rw [upd_ne q] at h; exact R.c.keep a h
  · rcases get j _ e with ⟨_, q⟩ | ⟨_, q⟩
    · cases q
    · exact R.fr j w q
  · rcases get j _ e with ⟨rfl, q⟩ | ⟨n, q⟩
    · cases q
      exact ⟨p, hp, ⟨o, upd_same, ho⟩, O.g, O.na, O.new⟩
    · obtain ⟨b, h1, h2⟩ := R.ow j w q
      have nb : b ≠ p := fun z => n (R.sep j i w t p q hi (by rw [← z]; exact h1) hp)
      exact ⟨b, h1, h2.mono Ext.refl h2.g (upd_ne nb)⟩
  · have old : ∀ {j : Nat} {w : T}, (ev.env.set i (.ow u))[j]? = some (.ow w) → ∃ w', ev.env[j]? = some (.ow w') := fun {j w} e => by
      rcases get j _ e with ⟨rfl, _⟩ | ⟨_, q⟩
      · exact ⟨t, hi⟩
      · exact ⟨w, q⟩
    obtain ⟨w1, q1⟩ := old e1
    obtain ⟨w2, q2⟩ := old e2
    exact R.sep j k w1 w2 a q1 q2 f1 f2
/-- a cell is changed -/
theorem Rel.putC (R : Rel K mg D as G ev σ H) {k : Nat} {t u : T} {p : Addr} {o : HO} (hk : ev.st[k]? = some (false, t)) (hp : as[k]? = some p) (ho : Obj' K mg as G u o) : Rel K mg D as G { ev with st := ev.st.set k (false, u) } σ (upd H p o) := by
  have mem : p ∈ as := List.mem_of_getElem? hp
  refine ⟨R.s.put hk hp ho, R.c.trans (Chg.put mem fun ob u e => by
    obtain ⟨_, o', ho', at_⟩ := R.s.cell k _ p hk hp
    unfold Ats at at_
    rw [if_neg (by simp), e] at at_
    cases at_
    cases ho'), R.len, R.fr, fun i w e => ?_, R.sep⟩
  obtain ⟨a, h1, h2⟩ := R.ow i w e
  have na : a ≠ p := fun z => h2.na (by rw [z]; exact mem)
  exact ⟨a, h1, h2.mono Ext.refl h2.g (upd_ne na)⟩
/-- behind a call: other cells, other things that stay; the slots as they were -/
theorem Rel.call (R : Rel K mg D as G ev σ H) {st' : List Cel} (R' : RelS K mg as' G' st' H') (c : Chg as G H as' G' H') : Rel K mg D as' G' { ev with st := st' } σ H' := by
  refine ⟨R', R.c.trans c, R.len, fun i t e => ?_, fun i t e => ?_, R.sep⟩
  · obtain ⟨v, h1, h2⟩ := R.fr i t e
    exact ⟨v, h1, h2.mono c.ext⟩
  · obtain ⟨a, h1, h2⟩ := R.ow i t e
    obtain ⟨o, h3, h4⟩ := h2.ob
    refine ⟨a, h1, ⟨o, c.fr a o h2.na h3, h4.mono c.ext⟩, ?_, ?_, h2.new⟩
    · cases q : G' a with
      | none => rfl
      | some u =>
        rcases c.gn a (by rw [q]; exact fun z => nomatch z) with h | h
        · exact absurd h2.g h
        · rw [h3] at h; cases h
    · obtain ⟨m, e, hm⟩ := c.more
      rw [e]
      intro z
      rcases List.mem_append.mp z with z | z
      · exact h2.na z
      · have := hm a z
        rw [h3] at this
        cases this
/-- a new cell -/
theorem Rel.box (R : Rel K mg D as G ev σ H) {p : Addr} {t : T} (O : Own K mg D as G H t p) (hw : ¬ InOw ev σ p) : Rel K mg D (as ++ [p]) G { ev with st := ev.st ++ [(false, t)] } σ H := by
  obtain ⟨o, h1, h2⟩ := O.ob
  have x : Ext as G (as ++ [p]) G := ⟨⟨[p], rfl⟩, Same.refl _⟩
  refine ⟨R.s.box O.g O.na h1 h2, ?_, R.len, fun i u e => ?_, fun i u e => ?_, R.sep⟩
  · obtain ⟨m, e, hm⟩ := R.c.more
    refine ⟨⟨m ++ [p], by rw [e, List.append_assoc], fun a ha => ?_⟩, R.c.g, R.c.gn, R.c.fr, R.c.keep, R.c.lk⟩
    rcases List.mem_append.mp ha with h | h
    · exact hm a h
    · rw [List.mem_singleton.mp h]; exact O.new
  · obtain ⟨v, h3, h4⟩ := R.fr i u e
    exact ⟨v, h3, h4.mono x⟩
  · obtain ⟨a, h3, h4⟩ := R.ow i u e
    obtain ⟨o', h5, h6⟩ := h4.ob
    refine ⟨a, h3, ⟨o', h5, h6.mono x⟩, h4.g, fun z => ?_, h4.new⟩
    rcases List.mem_append.mp z with z | z
    · exact h4.na z
    · exact hw ⟨i, u, e, by rw [← List.mem_singleton.mp z]; exact h3⟩
end
end Fu
set_option Elab.async false
set_option linter.all false
set_option maxRecDepth 100000
set_option maxHeartbeats 4000000
namespace Fu
open PySem PySem.Spec PyProof.Rows L2 Hv
/-! # readings over trees -/
/-- an exception: its class by name, its attributes -/
structure Exn where
  cls : Str
  fs : List (Str × T)
/-- an operand: a slot to be looked at when it is used, or a value -/
abbrev Rf := Sum Nat T
abbrev DX := Exn → Ev → Prop
abbrev DE := (T → Ev → Prop) → DX → Ev → Prop
abbrev DO := (Rf → Ev → Prop) → DX → Ev → Prop
abbrev DA := (List T → Ev → Prop) → DX → Ev → Prop
abbrev DR := (List Rf → Ev → Prop) → DX → Ev → Prop
abbrev DT := (Bool → Ev → Prop) → DX → Ev → Prop
section
variable (K : PySem.W.Frag) (mg : Str → Option Value)
/-- an exception that is raised -/
def XV (G : Hp) (as : List Addr) (x : Exn) (c : Value) (oa : Option Addr) : Prop := ∃ C, mg x.cls = some (.ref C) ∧ c = .ref C ∧
  ((x.fs = [] ∧ oa = none) ∨ ∃ n fs, oa = some n ∧ G n = some (.xd fs) ∧ x.fs.map (·.1) = fs.map (·.1) ∧ TVs K mg as G (x.fs.map (·.2)) (fs.map (·.2)))
variable (E : L2.St → XK)
def PX (D : En) (as : List Addr) (G : Hp) (σ : L2.St) (X : DX) : Prop := ∀ x ev as' G' c oa H', X x ev → Rel K mg D as' G' ev σ H' → Ext as G as' G' → XV K mg G' as' x c oa → E σ c oa H'
def PV (D : En) (as : List Addr) (G : Hp) (σ : L2.St) (P : T → Ev → Prop) (Q : VK) : Prop := ∀ r ev as' G' v H', P r ev → Rel K mg D as' G' ev σ H' → Ext as G as' G' → TV K mg as' G' r v → Q v H'
/-- an operand's value -/
def OV (as : List Addr) (G : Hp) (σ : L2.St) : Rf → V → Prop
  | .inl i, v => σ[i]? = some (some v)
  | .inr t, v => TV K mg as G t v
inductive OVs (as : List Addr) (G : Hp) (σ : L2.St) : List Rf → List V → Prop
  | nil : OVs as G σ [] []
  | cons {r : Rf} {rs : List Rf} {v : V} {vs : List V} : OV K mg as G σ r v → OVs as G σ rs vs → OVs as G σ (r :: rs) (v :: vs)
def PO (D : En) (as : List Addr) (G : Hp) (σ : L2.St) (P : Rf → Ev → Prop) (Q : VK) : Prop := ∀ r ev as' G' v H', P r ev → Rel K mg D as' G' ev σ H' → Ext as G as' G' → OV K mg as' G' σ r v → Q v H'
def PAs (D : En) (as : List Addr) (G : Hp) (σ : L2.St) (P : List T → Ev → Prop) (Q : List V → Hp → Prop) : Prop := ∀ r ev as' G' v H', P r ev → Rel K mg D as' G' ev σ H' → Ext as G as' G' → TVs K mg as' G' r v → Q v H'
def PRs (D : En) (as : List Addr) (G : Hp) (σ : L2.St) (P : List Rf → Ev → Prop) (Q : List V → Hp → Prop) : Prop := ∀ r ev as' G' v H', P r ev → Rel K mg D as' G' ev σ H' → Ext as G as' G' → OVs K mg as' G' σ r v → Q v H'
/-- a new object of one's own -/
def PN (D : En) (as : List Addr) (G : Hp) (σ : L2.St) (P : T → Ev → Prop) (Q : VK) : Prop := ∀ r ev as' G' a H', P r ev → Rel K mg D as' G' ev σ H' → Ext as G as' G' → Own K mg D as' G' H' r a → ¬ InOw ev σ a → Q (.ref a) H'
def PB (D : En) (as : List Addr) (G : Hp) (σ : L2.St) (P : Bool → Ev → Prop) (Q : Bool → Hp → Prop) : Prop := ∀ r ev as' G' H', P r ev → Rel K mg D as' G' ev σ H' → Ext as G as' G' → Q r H'
/-- the reading t says what f says -/
def Snd (t : TE) (f : DE) : Prop := ∀ D as G ev σ H Q P X, Rel K mg D as G ev σ H → f P X ev → PV K mg D as G σ P Q → PX K mg E D as G σ X → t σ H Q
def SndO (t : TE) (f : DO) : Prop := ∀ D as G ev σ H Q P X, Rel K mg D as G ev σ H → f P X ev → PO K mg D as G σ P Q → PX K mg E D as G σ X → t σ H Q
def SndA (t : TA) (f : DA) : Prop := ∀ D as G ev σ H Q P X, Rel K mg D as G ev σ H → f P X ev → PAs K mg D as G σ P Q → PX K mg E D as G σ X → t σ H Q
def SndR (t : TA) (f : DR) : Prop := ∀ D as G ev σ H Q P X, Rel K mg D as G ev σ H → f P X ev → PRs K mg D as G σ P Q → PX K mg E D as G σ X → t σ H Q
def SndN (t : TE) (f : DE) : Prop := ∀ D as G ev σ H Q P X, Rel K mg D as G ev σ H → f P X ev → PN K mg D as G σ P Q → PX K mg E D as G σ X → t σ H Q
def SndT (t : TT) (f : DT) : Prop := ∀ D as G ev σ H Q P X, Rel K mg D as G ev σ H → f P X ev → PB K mg D as G σ P Q → PX K mg E D as G σ X → t σ H Q
end
section
variable {K : PySem.W.Frag} {mg : Str → Option Value} {D : En} {E : L2.St → XK} {as as1 as2 : List Addr} {G G1 G2 H : Hp} {σ : L2.St} {X : DX} {ev : Ev}
theorem PX.ext (h : PX K mg E D as G σ X) (x : Ext as G as1 G1) : PX K mg E D as1 G1 σ X := fun e ev as' G' c oa H' a b y d => h e ev as' G' c oa H' a b (x.trans y) d
theorem OV.mono {r : Rf} {v : V} (h : OV K mg as G σ r v) (x : Ext as G as1 G1) : OV K mg as1 G1 σ r v := by
  cases r with
  | inl i => exact h
  | inr t => exact TV.mono x h
theorem OVs.mono (x : Ext as G as1 G1) : ∀ {rs : List Rf} {vs : List V}, OVs K mg as G σ rs vs → OVs K mg as1 G1 σ rs vs
  | _, _, .nil => .nil
  | _, _, .cons a b => .cons (a.mono x) (OVs.mono x b)
/-! ## what is seen of an operand -/
def deref (st : List Cel) : T → Option T
  | .cell k => match st[k]? with
    | some (false, t) => some t
    | some (true, .dct kvs) => some (.dct kvs)
    | _ => none
  | t => some t
def look (ev : Ev) : Rf → Option T
  | .inl i => match ev.env[i]? with
    | some (.fr t) => deref ev.st t
    | some (.ow t) => some t
    | _ => none
  | .inr t => deref ev.st t
/-- what can be read where t is seen -/
def HV (K : PySem.W.Frag) (mg : Str → Option Value) (as : List Addr) (G H : Hp) : T → V → Prop
  | .lst ts, v => ∃ a vs, v = .ref a ∧ H a = some (.lst vs) ∧ TVs K mg as G ts vs
  | .tup ts, v => ∃ a vs, v = .ref a ∧ SqT K G a vs ∧ TVs K mg as G ts vs
  | .dct kts, v => ∃ a kvs, v = .ref a ∧ Rd H a (.dK kvs) ∧ kts.map (·.1) = kvs.map (·.1) ∧ TVs K mg as G (kts.map (·.2)) (kvs.map (·.2))
  | .ins c fts, v => ∃ a C dx fs, v = .ref a ∧ mg c = some (.ref C) ∧ CI K C fs ∧ H a = some (.ins C dx fs) ∧ fts.map (·.1) = fs.map (·.1) ∧ TVs K mg as G (fts.map (·.2)) (fs.map (·.2))
  | .scr ns, v => ∃ a, v = .ref a ∧ SqL K H a (ns.map V.int)
  | .non, v => v = .non
  | .bl b, v => v = .bl b
  | .int i, v => v = .int i
  | .str x, v => v = .str x
  | .ty n, v => v = .ty n
  | .glob x, v => ∃ a, v = .ref a ∧ mg x = some (.ref a)
  | .cell k, v => ∃ a, v = .ref a ∧ as[k]? = some a
  | .exc a d c fts, v => TV K mg as G (.exc a d c fts) v
  | .ev c fts, v => TV K mg as G (.ev c fts) v
theorem HV.of (s : Same G H) {t : T} {v : V} (h : TV K mg as G t v) : HV K mg as G H t v := by
  cases h with
  | lst e a => exact ⟨_, _, rfl, s _ _ e, a⟩
  | tup e a => exact ⟨_, _, rfl, e, a⟩
  | dct e n a => exact ⟨_, _, rfl, .inr ⟨_, s _ _ e⟩, n, a⟩
  | ins m ci e n a => exact ⟨_, _, _, _, rfl, m, ci, s _ _ e, n, a⟩
  | scr e => exact ⟨_, rfl, SqL.le s e⟩
  | glob m => exact ⟨_, rfl, m⟩
  | cell e => exact ⟨_, rfl, e⟩
  | exc m => exact TV.exc m
  | excD m g e a => exact TV.excD m g e a
  | ev m g e a => exact TV.ev m g e a
  | _ => rfl
theorem HV.obj {t : T} {o : HO} {a : Addr} (h : Obj' K mg as G t o) (e : H a = some o) : HV K mg as G H t (.ref a) := by
  cases h with
  | lst b => exact ⟨_, _, rfl, e, b⟩
  | dct n b => exact ⟨_, _, rfl, .inl e, n, b⟩
  | ins m ci n b => exact ⟨_, _, _, _, rfl, m, ci, e, n, b⟩
theorem deref_ok {st : List Cel} (R : RelS K mg as G st H) {t u : T} {v : V} (h : TV K mg as G t v) (e : deref st t = some u) : HV K mg as G H u v := by
  cases h with
  | cell ea =>
    rename_i k a
    simp only [deref] at e
    cases q : st[k]? with
    | none => simp only [q] at e; cases e
    | some c =>
      obtain ⟨g, o, ho, at_⟩ := R.cell k c a q ea
      obtain ⟨lk, w⟩ := c
      simp only [q] at e
      cases lk with
      | false =>
        cases e
        unfold Ats at at_
        rw [if_neg (by simp)] at at_
        exact HV.obj ho at_
      | true =>
        cases w with
        | dct kvs =>
          cases e
          cases ho with
          | dct n b => exact ⟨_, _, rfl, at_.rd, n, b⟩
        | _ => cases e
  | _ => cases e; exact HV.of R.sub (by first | exact .non | exact .bl _ | exact .int _ | exact .str _ | exact .ty _ | (constructor <;> assumption))
theorem look_ok (R : Rel K mg D as G ev σ H) {r : Rf} {v : V} {u : T} (h : OV K mg as G σ r v) (e : look ev r = some u) : HV K mg as G H u v := by
  cases r with
  | inr t => exact deref_ok R.s h e
  | inl i =>
    simp only [look] at e
    cases q : ev.env[i]? with
    | none => simp only [q] at e; cases e
    | some s =>
      simp only [q] at e
      cases s with
      | no => cases e
      | fr t =>
        obtain ⟨w, h1, h2⟩ := R.fr i t q
        rw [show σ[i]? = some (some v) from h] at h1
        cases h1
        exact deref_ok R.s h2 e
      | ow t =>
        cases e
        obtain ⟨a, h1, h2⟩ := R.ow i _ q
        rw [show σ[i]? = some (some v) from h] at h1
        cases h1
        obtain ⟨o, h3, h4⟩ := h2.ob
        exact HV.obj h4 h3
/-- seen at x: k -/
def vw (ev : Ev) (x : Rf) (k : T → Prop) : Prop := match look ev x with
  | some t => k t
  | none => False
theorem vw_ok (R : Rel K mg D as G ev σ H) {r : Rf} {v : V} {k : T → Prop} (h : OV K mg as G σ r v) (e : vw ev r k) : ∃ u, look ev r = some u ∧ HV K mg as G H u v ∧ k u := by
  unfold vw at e
  cases q : look ev r with
  | none => rw [q] at e; exact e.elim
  | some u => rw [q] at e; exact ⟨u, rfl, look_ok R h q, e⟩
def vws (ev : Ev) : List Rf → (List T → Prop) → Prop
  | [], k => k ([] : List T)
  | r :: rs, k => vw ev r fun t => vws ev rs fun ts => k (t :: ts)
/-- all of a list of operands -/
inductive HVs (K : PySem.W.Frag) (mg : Str → Option Value) (as : List Addr) (G H : Hp) : List T → List V → Prop
  | nil : HVs K mg as G H [] []
  | cons {t : T} {ts : List T} {v : V} {vs : List V} : HV K mg as G H t v → HVs K mg as G H ts vs → HVs K mg as G H (t :: ts) (v :: vs)
theorem vws_ok (R : Rel K mg D as G ev σ H) : ∀ {rs : List Rf} {vs : List V} {k : List T → Prop}, OVs K mg as G σ rs vs → vws ev rs k → ∃ us, HVs K mg as G H us vs ∧ k us
  | _, _, _, .nil, e => ⟨[], .nil, e⟩
  | _, _, _, .cons a b, e => by
    obtain ⟨u, _, h1, e1⟩ := vw_ok R a e
    obtain ⟨us, h2, e2⟩ := vws_ok R b e1
    exact ⟨u :: us, .cons h1 h2, e2⟩
/-! ## data -/
mutual
def toP : T → Option PyData
  | .non => some .none
  | .bl b => some (.bool b)
  | .int i => some (.int i)
  | .str x => some (.str x)
  | .lst ts => (toPs ts).map PyData.list
  | .tup ts => (toPs ts).map PyData.tuple
  | _ => none
def toPs : List T → Option (List PyData)
  | [] => some []
  | t :: ts => match toP t, toPs ts with
    | some d, some ds => some (d :: ds)
    | _, _ => none
end
mutual
theorem TV.dp : ∀ {t : T} {v : V} {d : PyData}, TV K mg as G t v → toP t = some d → Dp K G v d
  | _, _, _, .non, e => by cases e; exact .non
  | _, _, _, .bl b, e => by cases e; exact .bl b
  | _, _, _, .int i, e => by cases e; exact .int i
  | _, _, _, .str x, e => by cases e; exact .str x
  | _, _, _, .lst h a, e => by
    rw [toP, Option.map_eq_some_iff] at e
    obtain ⟨ds, e, rfl⟩ := e
    exact .lst (SqL.of h) (TVs.dp a e)
  | _, _, _, .tup h a, e => by
    rw [toP, Option.map_eq_some_iff] at e
    obtain ⟨ds, e, rfl⟩ := e
    exact .tup h (TVs.dp a e)
  | _, _, _, .scr _, e => by simp [toP] at e
  | _, _, _, .dct _ _ _, e => by simp [toP] at e
  | _, _, _, .ins _ _ _ _ _, e => by simp [toP] at e
  | _, _, _, .glob _, e => by simp [toP] at e
  | _, _, _, .cell _, e => by simp [toP] at e
  | _, _, _, .exc _, e => by simp [toP] at e
  | _, _, _, .excD _ _ _ _, e => by simp [toP] at e
  | _, _, _, .ev _ _ _ _, e => by simp [toP] at e
  | _, _, _, .ty _, e => by simp [toP] at e
theorem TVs.dp : ∀ {ts : List T} {vs : List V} {ds : List PyData}, TVs K mg as G ts vs → toPs ts = some ds → DpAll K G vs ds
  | _, _, _, .nil, e => by cases e; exact .nil
  | _, _, _, .cons a b, e => by
    rw [toPs] at e
    split at e
    · rename_i d ds' h1 h2
      cases e
      exact .cons (TV.dp a h1) (TVs.dp b h2)
    · cases e
end
theorem HV.dp (s : Same G H) {t : T} {v : V} {d : PyData} (h : HV K mg as G H t v) (e : toP t = some d) : Dp K H v d := by
  cases t with
  | non => cases e; cases (show v = .non from h); exact .non
  | bl b => cases e; cases (show v = .bl b from h); exact .bl b
  | int i => cases e; cases (show v = .int i from h); exact .int i
  | str x => cases e; cases (show v = .str x from h); exact .str x
  | lst ts =>
    obtain ⟨a, vs, rfl, h1, h2⟩ := h
    rw [toP, Option.map_eq_some_iff] at e
    obtain ⟨ds, e, rfl⟩ := e
    exact .lst (SqL.of h1) (DpAll.le s (TVs.dp h2 e))
  | tup ts =>
    obtain ⟨a, vs, rfl, h1, h2⟩ := h
    rw [toP, Option.map_eq_some_iff] at e
    obtain ⟨ds, e, rfl⟩ := e
    exact .tup (SqT.le s h1) (DpAll.le s (TVs.dp h2 e))
  | _ => simp [toP] at e
end
/-! ## names, constants -/
/-- a value that is read comes to stay -/
def tFz (t : TE) : TE := fun σ H Q => t σ H fun v H1 => Q v H1 ∨ ∃ d u, v = .ref d ∧ H1 d = some u ∧ Mut (some u) ∧ ∀ od, Q v (upd H1 d (.frz od u))
theorem pe_fz {X : Cx} {e : Expr} {t : TE} (h : PE X e t) : PE X e (tFz t) := by
  refine ⟨fun pins s σ H Q I hw => thn (h.run pins s σ H _ I hw) fun v s1 ⟨x, H1, I1, r, q⟩ => ?_⟩
  rcases q with q | ⟨d, u, rfl, hd, mu, q⟩
  · exact ⟨x, H1, I1, r, q⟩
  · obtain ⟨od, I2⟩ := I1.lock hd mu
    exact ⟨.ref d, _, I2, r, q od⟩
def dC (t : T) : DE := fun P _ ev => P t ev
def dVar (i : Nat) : DE := fun P _ ev => match ev.env[i]? with
  | some (.fr t) => P t ev
  | some (.ow t) => P t { ev with env := ev.env.set i (.fr t) }
  | _ => False
def oV (i : Nat) : DO := fun P _ ev => match ev.env[i]? with
  | some (.fr _) => P (.inl i) ev
  | some (.ow _) => P (.inl i) ev
  | _ => False
def oE (f : DE) : DO := fun P X ev => f (fun t ev' => P (.inr t) ev') X ev
section
variable {K : PySem.W.Frag} {mg : Str → Option Value} {E : L2.St → XK}
theorem own_stay {D : En} {as : List Addr} {G H : Hp} {ev : Ev} {σ : L2.St} {t : T} {a : Addr} {Q : VK} (R : Rel K mg D as G ev σ H) (O : Own K mg D as G H t a) (nw : ¬ InOw ev σ a) (q : ∀ G' H', Rel K mg D as G' ev σ H' → Ext as G as G' → TV K mg as G' t (.ref a) → Q (.ref a) H') :
    Q (.ref a) H ∨ ∃ d u, V.ref a = .ref d ∧ H d = some u ∧ Mut (some u) ∧ ∀ od, Q (.ref a) (upd H d (.frz od u)) := by
  obtain ⟨o, h1, h2⟩ := O.ob
  have same : upd H a o = H := by
    funext b
    by_cases e : b = a
    · rw [e, upd_same, h1]
    · rw [upd_ne e]
  cases h2 with
  | lst b =>
    rename_i ts vs
    have R2 := R.stay (.lst vs) O nw
    rw [same] at R2
    exact .inl (q _ _ R2 (Ext.new O.g) (.lst upd_same (b.mono (Ext.new O.g))))
  | ins m ci n b =>
    rename_i C dx c fs fts
    have R2 := R.stay (.ins C dx fs) O nw
    rw [same] at R2
    exact .inl (q _ _ R2 (Ext.new O.g) (.ins m ci upd_same n (b.mono (Ext.new O.g))))
  | dct n b =>
    rename_i kts kvs
    exact .inr ⟨a, _, rfl, h1, trivial, fun od => q _ _ (R.stay (.frz od (.dK kvs)) O nw) (Ext.new O.g) (.dct upd_same n (b.mono (Ext.new O.g)))⟩
theorem snd_var {i : Nat} : Snd K mg E (tFz (tVar i)) (dVar i) := by
  intro D as G ev σ H Q P X R h hP hX
  unfold dVar at h
  cases q : ev.env[i]? with
  | none => rw [q] at h; exact h.elim
  | some s =>
    rw [q] at h
    cases s with
    | no => exact h.elim
    | fr t =>
      obtain ⟨v, h1, h2⟩ := R.fr i t q
      exact ⟨v, h1, .inl (hP t ev as G v H h R Ext.refl h2)⟩
    | ow t =>
      obtain ⟨a, h1, O⟩ := R.ow i t q
      have R1 : Rel K mg D as G { ev with env := ev.env.set i .no } σ H := R.drop .no (fun _ z => nomatch z) (fun _ z => nomatch z)
      have hl : i < ev.env.length := (List.getElem?_eq_some_iff.mp q).1
      have nw : ¬ InOw { ev with env := ev.env.set i .no } σ a := by
        rintro ⟨j, u, e1, e2⟩
        by_cases z : j = i
        · subst z
          rw [List.getElem?_set_self hl] at e1
          cases e1
        · rw [List.getElem?_set_ne (fun y => z y.symm)] at e1
          exact z (R.sep j i u t a e1 q e2 h1)
      refine ⟨_, h1, own_stay R1 O nw fun G' H' R2 x tv => hP t _ as G' _ H' h ?_ x tv⟩
      have := R2.drop (i := i) (.fr t) (fun _ z => nomatch z) (fun u z => by cases z; exact ⟨_, h1, tv⟩)
      simpa using this
theorem snd_oV {i : Nat} : SndO K mg E (tVar i) (oV i) := by
  intro D as G ev σ H Q P X R h hP hX
  unfold oV at h
  cases q : ev.env[i]? with
  | none => rw [q] at h; exact h.elim
  | some s =>
    rw [q] at h
    cases s with
    | no => exact h.elim
    | fr t =>
      obtain ⟨v, h1, h2⟩ := R.fr i t q
      exact ⟨v, h1, hP _ ev as G v H h R Ext.refl h1⟩
    | ow t =>
      obtain ⟨a, h1, O⟩ := R.ow i t q
      exact ⟨_, h1, hP _ ev as G _ H h R Ext.refl h1⟩
theorem snd_oE {t : TE} {f : DE} (h : Snd K mg E t f) : SndO K mg E t (oE f) := fun D as G ev σ H Q P X R hf hP hX =>
  h D as G ev σ H Q _ X R hf (fun r ev' as' G' v H' a b c d => hP (.inr r) ev' as' G' v H' a b c d) hX
theorem snd_c {t : T} {v : V} (h : ∀ as G, TV K mg as G t v) : Snd K mg E (tC v) (dC t) := fun D as G ev σ H Q P X R hf hP hX => hP t ev as G v H hf R Ext.refl (h as G)
theorem snd_int {i : Int} : Snd K mg E (tC (.int i)) (dC (.int i)) := snd_c fun _ _ => .int i
theorem snd_str {i : Str} : Snd K mg E (tC (.str i)) (dC (.str i)) := snd_c fun _ _ => .str i
theorem snd_bl {i : Bool} : Snd K mg E (tC (.bl i)) (dC (.bl i)) := snd_c fun _ _ => .bl i
theorem snd_non : Snd K mg E (tC .non) (dC .non) := snd_c fun _ _ => .non
theorem snd_ty {i : String} : Snd K mg E (tC (.ty i)) (dC (.ty i)) := snd_c fun _ _ => .ty i
theorem snd_glob {x : Str} {a : Addr} (h : mg x = some (.ref a)) : Snd K mg E (tC (.ref a)) (dC (.glob x)) := snd_c fun _ _ => .glob h
/-- a new object that comes to stay at once -/
theorem snd_fz {t : TE} {f : DE} (h : SndN K mg E t f) : Snd K mg E (tFz t) f := fun D as G ev σ H Q P X R hf hP hX =>
  h D as G ev σ H _ P X R hf (fun r ev' as' G' a H' p R' x O nw => own_stay R' O nw fun G2 H2 R2 x2 tv => hP r ev' as' G2 _ H2 p R2 (x.trans x2) tv) hX
/-! ## arguments -/
def daNil : DA := fun P _ ev => P [] ev
def daCons (f : DE) (g : DA) : DA := fun P X ev => f (fun t ev1 => g (fun ts ev2 => P (t :: ts) ev2) X ev1) X ev
def drNil : DR := fun P _ ev => P [] ev
def drCons (f : DO) (g : DR) : DR := fun P X ev => f (fun t ev1 => g (fun ts ev2 => P (t :: ts) ev2) X ev1) X ev
theorem snd_nil : SndA K mg E tNil daNil := fun D as G ev σ H Q P X R hf hP hX => hP [] ev as G [] H hf R Ext.refl .nil
theorem snd_cons {t : TE} {u : TA} {f : DE} {g : DA} (h : Snd K mg E t f) (k : SndA K mg E u g) : SndA K mg E (tCons t u) (daCons f g) := fun D as G ev σ H Q P X R hf hP hX =>
  h D as G ev σ H _ _ X R hf (fun r ev1 as1 G1 v H1 p R1 x1 tv => k D as1 G1 ev1 σ H1 _ _ X R1 p (fun rs ev2 as2 G2 vs H2 p2 R2 x2 tvs => hP (r :: rs) ev2 as2 G2 (v :: vs) H2 p2 R2 (x1.trans x2) (.cons (TV.mono x2 tv) tvs)) (hX.ext x1)) hX
theorem snd_rnil : SndR K mg E tNil drNil := fun D as G ev σ H Q P X R hf hP hX => hP [] ev as G [] H hf R Ext.refl .nil
theorem snd_rcons {t : TE} {u : TA} {f : DO} {g : DR} (h : SndO K mg E t f) (k : SndR K mg E u g) : SndR K mg E (tCons t u) (drCons f g) := fun D as G ev σ H Q P X R hf hP hX =>
  h D as G ev σ H _ _ X R hf (fun r ev1 as1 G1 v H1 p R1 x1 tv => k D as1 G1 ev1 σ H1 _ _ X R1 p (fun rs ev2 as2 G2 vs H2 p2 R2 x2 tvs => hP (r :: rs) ev2 as2 G2 (v :: vs) H2 p2 R2 (x1.trans x2) (.cons (tv.mono x2) tvs)) (hX.ext x1)) hX
/-! ## displays -/
def dLst (f : DA) : DE := fun P X ev => f (fun ts ev1 => ts.length ≤ sizeLine ∧ P (.lst ts) ev1) X ev
def dTup (f : DA) : DE := fun P X ev => f (fun ts ev1 => ts.length ≤ sizeLine ∧ P (.tup ts) ev1) X ev
theorem snd_lstN {t : TA} {f : DA} (h : SndA K mg E t f) : SndN K mg E (tLst t) (dLst f) := fun D as G ev σ H Q P X R hf hP hX =>
  h D as G ev σ H _ _ X R hf (fun ts ev1 as1 G1 vs H1 ⟨l, p⟩ R1 x1 tv => ⟨by rw [← tv.length]; exact l, fun a ha => hP _ ev1 as1 G1 a _ p (R1.new ha) x1 (R1.own ha (.lst tv)) (R1.notOw ha)⟩) hX
theorem snd_lst {t : TA} {f : DA} (h : SndA K mg E t f) : Snd K mg E (tLst t) (dLst f) := fun D as G ev σ H Q P X R hf hP hX =>
  h D as G ev σ H _ _ X R hf (fun ts ev1 as1 G1 vs H1 ⟨l, p⟩ R1 x1 tv => ⟨by rw [← tv.length]; exact l, fun a ha => hP _ ev1 as1 _ _ _ p (R1.fz ha) (x1.trans (Ext.new (R1.s.sub.free ha))) (.lst upd_same (tv.mono (Ext.new (R1.s.sub.free ha))))⟩) hX
theorem snd_tup {t : TA} {f : DA} (h : SndA K mg E t f) : Snd K mg E (tTup t) (dTup f) := fun D as G ev σ H Q P X R hf hP hX =>
  h D as G ev σ H _ _ X R hf (fun ts ev1 as1 G1 vs H1 ⟨l, p⟩ R1 x1 tv => ⟨by rw [← tv.length]; exact l, fun a ha => hP _ ev1 as1 _ _ _ p (R1.fz ha) (x1.trans (Ext.new (R1.s.sub.free ha))) (.tup (SqT.of upd_same) (tv.mono (Ext.new (R1.s.sub.free ha))))⟩) hX
/-- {}: a new dict -/
def dDct : DE := fun P _ ev => P (.dct []) ev
theorem snd_dctN : SndN K mg E tDNewK dDct := fun D as G ev σ H Q P X R hf hP hX a ha => hP _ ev as G a _ hf (R.new ha) Ext.refl (R.own ha (.dct rfl .nil)) (R.notOw ha)
/-! ## operations by what is seen -/
abbrev G2 := T → T → (T → Prop) → Prop
/-- r says what g says -/
def OpS (K : PySem.W.Frag) (mg : Str → Option Value) (r : R2) (g : G2) : Prop := ∀ (D : En) as G ev σ H tx ty x y (P : T → Prop) (Q : VK), Rel K mg D as G ev σ H → HV K mg as G H tx x → HV K mg as G H ty y → g tx ty P →
  (∀ t v G' H', P t → Rel K mg D as G' ev σ H' → Ext as G as G' → TV K mg as G' t v → Q v H') → r x y H Q
def OpN (K : PySem.W.Frag) (mg : Str → Option Value) (r : R2) (g : G2) : Prop := ∀ (D : En) as G ev σ H tx ty x y (P : T → Prop) (Q : VK), Rel K mg D as G ev σ H → HV K mg as G H tx x → HV K mg as G H ty y → g tx ty P →
  (∀ t a H', P t → Rel K mg D as G ev σ H' → Own K mg D as G H' t a → ¬ InOw ev σ a → Q (.ref a) H') → r x y H Q
def dOp (g : G2) (a b : DO) : DE := fun P X ev => a (fun x ev1 => b (fun y ev2 => vw ev2 x fun tx => vw ev2 y fun ty => g tx ty fun r => P r ev2) X ev1) X ev
theorem snd_op {r : R2} {g : G2} {ta tb : TE} {fa fb : DO} (o : OpS K mg r g) (h : SndO K mg E ta fa) (k : SndO K mg E tb fb) : Snd K mg E (tOp r ta tb) (dOp g fa fb) := fun D as G ev σ H Q P X R hf hP hX =>
  h D as G ev σ H _ _ X R hf (fun x ev1 as1 G1 v H1 p R1 x1 tv => k D as1 G1 ev1 σ H1 _ _ X R1 p (fun y ev2 as2 G2 w H2 p2 R2 x2 tw => by
    obtain ⟨tx, _, h1, p3⟩ := vw_ok R2 (tv.mono x2) p2
    obtain ⟨ty, _, h2, p4⟩ := vw_ok R2 tw p3
    exact o D as2 G2 ev2 σ H2 tx ty v w _ Q R2 h1 h2 p4 fun t u G' H' p5 R5 x5 t5 => hP t ev2 as2 G' u H' p5 R5 ((x1.trans x2).trans x5) t5) (hX.ext x1)) hX
theorem snd_opN {r : R2} {g : G2} {ta tb : TE} {fa fb : DO} (o : OpN K mg r g) (h : SndO K mg E ta fa) (k : SndO K mg E tb fb) : SndN K mg E (tOp r ta tb) (dOp g fa fb) := fun D as G ev σ H Q P X R hf hP hX =>
  h D as G ev σ H _ _ X R hf (fun x ev1 as1 G1 v H1 p R1 x1 tv => k D as1 G1 ev1 σ H1 _ _ X R1 p (fun y ev2 as2 G2 w H2 p2 R2 x2 tw => by
    obtain ⟨tx, _, h1, p3⟩ := vw_ok R2 (tv.mono x2) p2
    obtain ⟨ty, _, h2, p4⟩ := vw_ok R2 tw p3
    exact o D as2 G2 ev2 σ H2 tx ty v w _ Q R2 h1 h2 p4 fun t a H' p5 R5 O5 n5 => hP t ev2 as2 G2 a H' p5 R5 (x1.trans x2) O5 n5) (hX.ext x1)) hX
end
end Fu
set_option Elab.async false
set_option linter.all false
set_option maxRecDepth 100000
set_option maxHeartbeats 4000000
namespace Fu
open PySem PySem.Spec PyProof.Rows L2 Hv
/-! # tests, statements, loops, comprehensions over trees -/
section
variable {K : PySem.W.Frag} {mg : Str → Option Value} {E : L2.St → XK}
/-! ## tests -/
def dTest (f : DE) : DT := fun P X ev => f (fun t ev1 => match t with
  | .bl b => P b ev1
  | _ => False) X ev
theorem snd_test {t : TE} {f : DE} (h : Snd K mg E t f) : SndT K mg E (tTest t) (dTest f) := fun D as G ev σ H Q P X R hf hP hX =>
  h D as G ev σ H _ _ X R hf (fun r ev1 as1 G1 v H1 p R1 x1 tv => by
    cases tv with
    | bl b => exact ⟨b, rfl, hP b ev1 as1 G1 H1 p R1 x1⟩
    | _ => exact (show False from p).elim) hX
theorem snd_tB {t : TE} {f : DE} (h : Snd K mg E t f) : SndT K mg E (tB t) (dTest f) := snd_test h
/-- a value's truth -/
def truth : T → Option Bool
  | .non => some false
  | .bl b => some b
  | .int i => some (i != 0)
  | .str x => if x.length ≤ sizeLine then some ((x.length : Int) != 0) else none
  | .lst ts => some (!ts.isEmpty)
  | .tup ts => some (!ts.isEmpty)
  | _ => none
def tTru (K : PySem.W.Frag) (t : TE) : TT := fun σ H Q => t σ H fun x H' => ∃ k, TruV K x H' k ∧ Q k H'
theorem pt_tru {X : Cx} (hK : X.K = K) {a : Expr} {t : TE} (ha : PE X a t) (he : ∀ whole, isTrue a X.env whole = (do let v ← whole; standAt a.pos; holding [v] (truthy v)) := by intro _; rfl) : PT X a (tTru K t) := by
  subst hK
  exact pt_truth ha he
def dTru (f : DO) : DT := fun P X ev => f (fun r ev1 => vw ev1 r fun t => match truth t with
  | some b => P b ev1
  | none => False) X ev
theorem isEmpty_tv {as : List Addr} {G : Hp} {ts : List T} {vs : List V} (h : TVs K mg as G ts vs) : vs.isEmpty = ts.isEmpty := by cases h <;> rfl
theorem snd_tru {t : TE} {f : DO} (h : SndO K mg E t f) : SndT K mg E (tTru K t) (dTru f) := fun D as G ev σ H Q P X R hf hP hX =>
  h D as G ev σ H _ _ X R hf (fun r ev1 as1 G1 v H1 p R1 x1 tv => by
    obtain ⟨u, _, hv, p⟩ := vw_ok R1 tv p
    cases e : truth u with
    | none => rw [e] at p; exact p.elim
    | some b =>
      rw [e] at p
      refine ⟨b, ?_, hP b ev1 as1 G1 H1 p R1 x1⟩
      cases u with
      | non => cases e; cases (show v = .non from hv); rfl
      | bl c => cases e; cases (show v = .bl b from hv); rfl
      | int i => cases e; cases (show v = .int i from hv); rfl
      | str x =>
        cases (show v = .str x from hv)
        simp only [truth] at e
        split at e
        · cases e; exact ⟨by assumption, rfl⟩
        · cases e
      | lst ts =>
        obtain ⟨a, vs, rfl, h1, h2⟩ := hv
        cases e
        exact .inl ⟨vs, SqL.of h1, by rw [isEmpty_tv h2]⟩
      | tup ts =>
        obtain ⟨a, vs, rfl, h1, h2⟩ := hv
        cases e
        exact .inr (.inl ⟨vs, SqT.le R1.s.sub h1, by rw [isEmpty_tv h2]⟩)
      | _ => cases e) hX
def dAnd (f g : DT) : DT := fun P X ev => f (fun b ev1 => if b = true then g P X ev1 else P false ev1) X ev
def dOr (f g : DT) : DT := fun P X ev => f (fun b ev1 => if b = true then P true ev1 else g P X ev1) X ev
def dNot (f : DT) : DT := fun P X ev => f (fun b ev1 => P (!b) ev1) X ev
theorem PB.ext {D : En} {as as1 : List Addr} {G G1 : Hp} {σ : L2.St} {P : Bool → Ev → Prop} {Q : Bool → Hp → Prop} (h : PB K mg D as G σ P Q) (x : Ext as G as1 G1) : PB K mg D as1 G1 σ P Q := fun r ev as' G' H' a b c => h r ev as' G' H' a b (x.trans c)
theorem PV.ext {D : En} {as as1 : List Addr} {G G1 : Hp} {σ : L2.St} {P : T → Ev → Prop} {Q : VK} (h : PV K mg D as G σ P Q) (x : Ext as G as1 G1) : PV K mg D as1 G1 σ P Q := fun r ev as' G' v H' a b c d => h r ev as' G' v H' a b (x.trans c) d
theorem PN.ext {D : En} {as as1 : List Addr} {G G1 : Hp} {σ : L2.St} {P : T → Ev → Prop} {Q : VK} (h : PN K mg D as G σ P Q) (x : Ext as G as1 G1) : PN K mg D as1 G1 σ P Q := fun r ev as' G' v H' a b c d e => h r ev as' G' v H' a b (x.trans c) d e
theorem PO.ext {D : En} {as as1 : List Addr} {G G1 : Hp} {σ : L2.St} {P : Rf → Ev → Prop} {Q : VK} (h : PO K mg D as G σ P Q) (x : Ext as G as1 G1) : PO K mg D as1 G1 σ P Q := fun r ev as' G' v H' a b c d => h r ev as' G' v H' a b (x.trans c) d
theorem snd_and {t u : TT} {f g : DT} (h : SndT K mg E t f) (k : SndT K mg E u g) : SndT K mg E (tAnd t u) (dAnd f g) := fun D as G ev σ H Q P X R hf hP hX =>
  h D as G ev σ H _ _ X R hf (fun b ev1 as1 G1 H1 p R1 x1 => by
    cases b with
    | true => rw [if_pos rfl] at p ⊢; exact k D as1 G1 ev1 σ H1 Q P X R1 p (hP.ext x1) (hX.ext x1)
    | false => rw [if_neg (by simp)] at p ⊢; exact hP false ev1 as1 G1 H1 p R1 x1) hX
theorem snd_or {t u : TT} {f g : DT} (h : SndT K mg E t f) (k : SndT K mg E u g) : SndT K mg E (tOr t u) (dOr f g) := fun D as G ev σ H Q P X R hf hP hX =>
  h D as G ev σ H _ _ X R hf (fun b ev1 as1 G1 H1 p R1 x1 => by
    cases b with
    | false => rw [if_neg (by simp)] at p ⊢; exact k D as1 G1 ev1 σ H1 Q P X R1 p (hP.ext x1) (hX.ext x1)
    | true => rw [if_pos rfl] at p ⊢; exact hP true ev1 as1 G1 H1 p R1 x1) hX
theorem snd_not {t : TT} {f : DT} (h : SndT K mg E t f) : SndT K mg E (tNot t) (dNot f) := fun D as G ev σ H Q P X R hf hP hX =>
  h D as G ev σ H _ _ X R hf (fun b ev1 as1 G1 H1 p R1 x1 => hP (!b) ev1 as1 G1 H1 p R1 x1) hX
/-! as values -/
def dAndV (f g : DE) : DE := fun P X ev => f (fun t ev1 => match t with
  | .bl b => if b = true then g P X ev1 else P (.bl false) ev1
  | _ => False) X ev
def dOrV (f g : DE) : DE := fun P X ev => f (fun t ev1 => match t with
  | .bl b => if b = true then P (.bl true) ev1 else g P X ev1
  | _ => False) X ev
def dNotV (f : DE) : DE := fun P X ev => f (fun t ev1 => match t with
  | .bl b => P (.bl (!b)) ev1
  | _ => False) X ev
def dIfE (c : DT) (f g : DE) : DE := fun P X ev => c (fun b ev1 => if b = true then f P X ev1 else g P X ev1) X ev
theorem snd_andV {t u : TE} {f g : DE} (h : Snd K mg E t f) (k : Snd K mg E u g) : Snd K mg E (tAndV t u) (dAndV f g) := fun D as G ev σ H Q P X R hf hP hX =>
  h D as G ev σ H _ _ X R hf (fun r ev1 as1 G1 v H1 p R1 x1 tv => by
    cases tv with
    | bl b =>
      refine ⟨b, rfl, ?_⟩
      cases b with
      | true => rw [if_pos rfl]; exact k D as1 G1 ev1 σ H1 Q P X R1 p (hP.ext x1) (hX.ext x1)
      | false => rw [if_neg (by simp)]; exact hP _ ev1 as1 G1 _ H1 p R1 x1 (.bl _)
    | _ => exact (show False from p).elim) hX
theorem snd_orV {t u : TE} {f g : DE} (h : Snd K mg E t f) (k : Snd K mg E u g) : Snd K mg E (tOrV t u) (dOrV f g) := fun D as G ev σ H Q P X R hf hP hX =>
  h D as G ev σ H _ _ X R hf (fun r ev1 as1 G1 v H1 p R1 x1 tv => by
    cases tv with
    | bl b =>
      refine ⟨b, rfl, ?_⟩
      cases b with
      | false => rw [if_neg (by simp)]; exact k D as1 G1 ev1 σ H1 Q P X R1 p (hP.ext x1) (hX.ext x1)
      | true => rw [if_pos rfl]; exact hP _ ev1 as1 G1 _ H1 p R1 x1 (.bl _)
    | _ => exact (show False from p).elim) hX
theorem snd_notV {t : TE} {f : DE} (h : Snd K mg E t f) : Snd K mg E (tNotV t) (dNotV f) := fun D as G ev σ H Q P X R hf hP hX =>
  h D as G ev σ H _ _ X R hf (fun r ev1 as1 G1 v H1 p R1 x1 tv => by
    cases tv with
    | bl b => exact ⟨b, rfl, hP _ ev1 as1 G1 _ H1 p R1 x1 (.bl _)⟩
    | _ => exact (show False from p).elim) hX
theorem snd_ifE {c : TT} {t u : TE} {d : DT} {f g : DE} (hc : SndT K mg E c d) (h : Snd K mg E t f) (k : Snd K mg E u g) : Snd K mg E (tIf c t u) (dIfE d f g) := fun D as G ev σ H Q P X R hf hP hX =>
  hc D as G ev σ H _ _ X R hf (fun b ev1 as1 G1 H1 p R1 x1 => by
    cases b with
    | true => rw [if_pos rfl] at p ⊢; exact h D as1 G1 ev1 σ H1 Q P X R1 p (hP.ext x1) (hX.ext x1)
    | false => rw [if_neg (by simp)] at p ⊢; exact k D as1 G1 ev1 σ H1 Q P X R1 p (hP.ext x1) (hX.ext x1)) hX
/-! ## chains -/
def dChain (g g' : G2) (a b c : DO) : DE := fun P X ev => a (fun x ev1 => b (fun y ev2 => vw ev2 x fun tx => vw ev2 y fun ty => g tx ty fun r => match r with
  | .bl k => if k = true then c (fun z ev3 => vw ev3 y fun ty' => vw ev3 z fun tz => g' ty' tz fun r' => P r' ev3) X ev2 else P (.bl false) ev2
  | _ => False) X ev1) X ev
theorem snd_chain {r r' : R2} {g g' : G2} {ta tb tc : TE} {fa fb fc : DO} (o : OpS K mg r g) (o' : OpS K mg r' g') (h : SndO K mg E ta fa) (k : SndO K mg E tb fb) (l : SndO K mg E tc fc) : Snd K mg E (tChain r r' ta tb tc) (dChain g g' fa fb fc) := fun D as G ev σ H Q P X R hf hP hX =>
  h D as G ev σ H _ _ X R hf (fun x ev1 as1 G1 v H1 p R1 x1 tv => k D as1 G1 ev1 σ H1 _ _ X R1 p (fun y ev2 as2 G2 w H2 p2 R2 x2 tw => by
    obtain ⟨tx, _, h1, p3⟩ := vw_ok R2 (tv.mono x2) p2
    obtain ⟨ty, _, h2, p4⟩ := vw_ok R2 tw p3
    refine o D as2 G2 ev2 σ H2 tx ty v w _ _ R2 h1 h2 p4 fun t u G' H' p5 R5 x5 t5 => ?_
    cases t5 with
    | bl b =>
      refine ⟨b, rfl, ?_⟩
      cases b with
      | false => rw [if_neg (by simp)]; exact hP _ ev2 as2 G' _ H' p5 R5 ((x1.trans x2).trans x5) (.bl _)
      | true =>
        rw [if_pos rfl]
        refine l D as2 G' ev2 σ H' _ _ X R5 p5 (fun z ev3 as3 G3 w3 H3 p6 R6 x6 tz => ?_) (hX.ext ((x1.trans x2).trans x5))
        obtain ⟨ty', _, h3, p7⟩ := vw_ok R6 ((tw.mono x5).mono x6) p6
        obtain ⟨tz', _, h4, p8⟩ := vw_ok R6 tz p7
        exact o' D as3 G3 ev3 σ H3 ty' tz' w w3 _ _ R6 h3 h4 p8 fun t u G9 H9 p9 R9 x9 t9 => hP t ev3 as3 G9 u H9 p9 R9 ((((x1.trans x2).trans x5).trans x6).trans x9) t9
    | _ => exact (show False from p5).elim) (hX.ext x1)) hX
/-! ## built-in functions by what is seen -/
abbrev GL := List T → (T → Prop) → Prop
def CalS (K : PySem.W.Frag) (mg : Str → Option Value) (r : List V → Hp → VK → Prop) (g : GL) : Prop := ∀ (D : En) as G ev σ H ts vs (P : T → Prop) (Q : VK), Rel K mg D as G ev σ H → HVs K mg as G H ts vs → g ts P →
  (∀ t v G' H', P t → Rel K mg D as G' ev σ H' → Ext as G as G' → TV K mg as G' t v → Q v H') → r vs H Q
def CalN (K : PySem.W.Frag) (mg : Str → Option Value) (r : List V → Hp → VK → Prop) (g : GL) : Prop := ∀ (D : En) as G ev σ H ts vs (P : T → Prop) (Q : VK), Rel K mg D as G ev σ H → HVs K mg as G H ts vs → g ts P →
  (∀ t a H', P t → Rel K mg D as G ev σ H' → Own K mg D as G H' t a → ¬ InOw ev σ a → Q (.ref a) H') → r vs H Q
def dCal (g : GL) (a : DR) : DE := fun P X ev => a (fun rs ev1 => vws ev1 rs fun ts => g ts fun t => P t ev1) X ev
theorem snd_cal {r : List V → Hp → VK → Prop} {g : GL} {t : TA} {f : DR} (o : CalS K mg r g) (h : SndR K mg E t f) : Snd K mg E (tCB r t) (dCal g f) := fun D as G ev σ H Q P X R hf hP hX =>
  h D as G ev σ H _ _ X R hf (fun rs ev1 as1 G1 vs H1 p R1 x1 tv => by
    obtain ⟨us, h1, p2⟩ := vws_ok R1 tv p
    exact o D as1 G1 ev1 σ H1 us vs _ Q R1 h1 p2 fun t u G' H' p5 R5 x5 t5 => hP t ev1 as1 G' u H' p5 R5 (x1.trans x5) t5) hX
theorem snd_calN {r : List V → Hp → VK → Prop} {g : GL} {t : TA} {f : DR} (o : CalN K mg r g) (h : SndR K mg E t f) : SndN K mg E (tCB r t) (dCal g f) := fun D as G ev σ H Q P X R hf hP hX =>
  h D as G ev σ H _ _ X R hf (fun rs ev1 as1 G1 vs H1 p R1 x1 tv => by
    obtain ⟨us, h1, p2⟩ := vws_ok R1 tv p
    exact o D as1 G1 ev1 σ H1 us vs _ Q R1 h1 p2 fun t a H' p5 R5 O5 n5 => hP t ev1 as1 G1 a H' p5 R5 x1 O5 n5) hX
/-! ## statements -/
inductive Rt where
  | fr (t : T) | ow (t : T)
structure PEnds where
  nx : Ev → Prop
  rt : Rt → Ev → Prop
  bk : Ev → Prop := fun _ => False
  ct : Ev → Prop := fun _ => False
  ex : DX
abbrev DS := PEnds → Ev → Prop
def RV (K : PySem.W.Frag) (mg : Str → Option Value) (D : En) (as : List Addr) (G H : Hp) : Rt → V → Prop
  | .fr t, v => TV K mg as G t v
  | .ow t, v => ∃ a, v = .ref a ∧ Own K mg D as G H t a
structure Fin' (K : PySem.W.Frag) (mg : Str → Option Value) (E : L2.St → XK) (D : En) (as : List Addr) (G : Hp) (P : PEnds) (Dn : Ends) : Prop where
  nx : ∀ ev as' G' σ' H', P.nx ev → Rel K mg D as' G' ev σ' H' → Ext as G as' G' → Dn.nx σ' H'
  bk : ∀ ev as' G' σ' H', P.bk ev → Rel K mg D as' G' ev σ' H' → Ext as G as' G' → Dn.bk σ' H'
  ct : ∀ ev as' G' σ' H', P.ct ev → Rel K mg D as' G' ev σ' H' → Ext as G as' G' → Dn.ct σ' H'
  rt : ∀ r ev as' G' σ' v H', P.rt r ev → Rel K mg D as' G' ev σ' H' → Ext as G as' G' → RV K mg D as' G' H' r v → Dn.rt v H'
  ex : ∀ x ev as' G' σ' c oa H', P.ex x ev → Rel K mg D as' G' ev σ' H' → Ext as G as' G' → XV K mg G' as' x c oa → E σ' c oa H'
theorem Fin'.ext {D : En} {as as1 : List Addr} {G G1 : Hp} {P : PEnds} {Dn : Ends} (F : Fin' K mg E D as G P Dn) (x : Ext as G as1 G1) : Fin' K mg E D as1 G1 P Dn :=
  ⟨fun ev as' G' σ' H' a b c => F.nx ev as' G' σ' H' a b (x.trans c), fun ev as' G' σ' H' a b c => F.bk ev as' G' σ' H' a b (x.trans c), fun ev as' G' σ' H' a b c => F.ct ev as' G' σ' H' a b (x.trans c),
   fun r ev as' G' σ' v H' a b c d => F.rt r ev as' G' σ' v H' a b (x.trans c) d, fun e ev as' G' σ' c oa H' a b y d => F.ex e ev as' G' σ' c oa H' a b (x.trans y) d⟩
theorem Fin'.px {D : En} {as : List Addr} {G : Hp} {P : PEnds} {Dn : Ends} (F : Fin' K mg E D as G P Dn) (σ : L2.St) : PX K mg E D as G σ P.ex := fun x ev as' G' c oa H' a b y d => F.ex x ev as' G' σ c oa H' a b y d
def SndS (K : PySem.W.Frag) (mg : Str → Option Value) (E : L2.St → XK) (t : TS) (f : DS) : Prop := ∀ D as G ev σ H Dn P, Rel K mg D as G ev σ H → f P ev → Fin' K mg E D as G P Dn → t Dn σ H
def dSeq (f g : DS) : DS := fun P ev => f { P with nx := fun ev1 => g P ev1 } ev
def dNext : DS := fun P ev => P.nx ev
def dIfS (c : DT) (f g : DS) : DS := fun P ev => c (fun b ev1 => if b = true then f P ev1 else g P ev1) P.ex ev
def dRet (f : DE) : DS := fun P ev => f (fun t ev1 => P.rt (.fr t) ev1) P.ex ev
/-- a new object is handed back -/
def dRetO (f : DE) : DS := fun P ev => f (fun t ev1 => P.rt (.ow t) ev1) P.ex ev
/-- a name is handed back -/
def dRetV (i : Nat) : DS := fun P ev => match ev.env[i]? with
  | some (.fr t) => P.rt (.fr t) ev
  | some (.ow t) => P.rt (.ow t) { ev with env := ev.env.set i .no }
  | _ => False
def dRetN : DS := fun P ev => P.rt (.fr .non) ev
def dDrop (f : DE) : DS := fun P ev => f (fun _ ev1 => P.nx ev1) P.ex ev
def dBreak : DS := fun P ev => P.bk ev
def dCont : DS := fun P ev => P.ct ev
theorem snd_seq {t u : TS} {f g : DS} (h : SndS K mg E t f) (k : SndS K mg E u g) : SndS K mg E (tSeq t u) (dSeq f g) := fun D as G ev σ H Dn P R hf F =>
  h D as G ev σ H _ _ R hf ⟨fun ev1 as1 G1 σ1 H1 p R1 x1 => k D as1 G1 ev1 σ1 H1 Dn P R1 p (F.ext x1), F.bk, F.ct, F.rt, F.ex⟩
theorem snd_next : SndS K mg E tNext dNext := fun D as G ev σ H Dn P R hf F => F.nx ev as G σ H hf R Ext.refl
theorem snd_break : SndS K mg E tBreak dBreak := fun D as G ev σ H Dn P R hf F => F.bk ev as G σ H hf R Ext.refl
theorem snd_cont : SndS K mg E tCont dCont := fun D as G ev σ H Dn P R hf F => F.ct ev as G σ H hf R Ext.refl
theorem snd_ifS {c : TT} {t u : TS} {d : DT} {f g : DS} (hc : SndT K mg E c d) (h : SndS K mg E t f) (k : SndS K mg E u g) : SndS K mg E (tIfS c t u) (dIfS d f g) := fun D as G ev σ H Dn P R hf F =>
  hc D as G ev σ H _ _ P.ex R hf (fun b ev1 as1 G1 H1 p R1 x1 => by
    cases b with
    | true => rw [if_pos rfl] at p ⊢; exact h D as1 G1 ev1 σ H1 Dn P R1 p (F.ext x1)
    | false => rw [if_neg (by simp)] at p ⊢; exact k D as1 G1 ev1 σ H1 Dn P R1 p (F.ext x1)) (F.px σ)
theorem snd_ret {t : TE} {f : DE} (h : Snd K mg E t f) : SndS K mg E (tRet t) (dRet f) := fun D as G ev σ H Dn P R hf F =>
  h D as G ev σ H _ _ P.ex R hf (fun r ev1 as1 G1 v H1 p R1 x1 tv => F.rt _ ev1 as1 G1 σ v H1 p R1 x1 tv) (F.px σ)
theorem snd_retO {t : TE} {f : DE} (h : SndN K mg E t f) : SndS K mg E (tRet t) (dRetO f) := fun D as G ev σ H Dn P R hf F =>
  h D as G ev σ H _ _ P.ex R hf (fun r ev1 as1 G1 a H1 p R1 x1 O nw => F.rt _ ev1 as1 G1 σ _ H1 p R1 x1 ⟨a, rfl, O⟩) (F.px σ)
theorem snd_retV {i : Nat} : SndS K mg E (tRet (tVar i)) (dRetV i) := fun D as G ev σ H Dn P R hf F => by
  unfold dRetV at hf
  cases q : ev.env[i]? with
  | none => rw [q] at hf; exact hf.elim
  | some s =>
    rw [q] at hf
    cases s with
    | no => exact hf.elim
    | fr t =>
      obtain ⟨v, h1, h2⟩ := R.fr i t q
      exact ⟨v, h1, F.rt _ ev as G σ v H hf R Ext.refl h2⟩
    | ow t =>
      obtain ⟨a, h1, O⟩ := R.ow i t q
      exact ⟨_, h1, F.rt _ _ as G σ _ H hf (R.drop .no (fun _ z => nomatch z) (fun _ z => nomatch z)) Ext.refl ⟨a, rfl, O⟩⟩
theorem snd_retN : SndS K mg E tRetN dRetN := fun D as G ev σ H Dn P R hf F => F.rt _ ev as G σ _ H hf R Ext.refl .non
theorem snd_drop {t : TE} {f : DE} (h : Snd K mg E t f) : SndS K mg E (tDrop t) (dDrop f) := fun D as G ev σ H Dn P R hf F =>
  h D as G ev σ H _ _ P.ex R hf (fun r ev1 as1 G1 v H1 p R1 x1 tv => F.nx ev1 as1 G1 σ H1 p R1 x1) (F.px σ)
/-! ## targets -/
abbrev DG := T → (Ev → Prop) → DX → Ev → Prop
abbrev DGs := List T → (Ev → Prop) → DX → Ev → Prop
def PG' (K : PySem.W.Frag) (mg : Str → Option Value) (D : En) (as : List Addr) (G : Hp) (P : Ev → Prop) (R : L2.St → Hp → Prop) : Prop := ∀ ev as' G' σ' H', P ev → Rel K mg D as' G' ev σ' H' → Ext as G as' G' → R σ' H'
def SndG (K : PySem.W.Frag) (mg : Str → Option Value) (E : L2.St → XK) (g : TG) (f : DG) : Prop := ∀ D as G ev σ H t v (P : Ev → Prop) X (Z : L2.St → Hp → Prop), Rel K mg D as G ev σ H → TV K mg as G t v → f t P X ev → PG' K mg D as G P Z → (∀ σ, PX K mg E D as G σ X) → g v σ H Z
def SndGs (K : PySem.W.Frag) (mg : Str → Option Value) (E : L2.St → XK) (g : TGs) (f : DGs) : Prop := ∀ D as G ev σ H ts vs (P : Ev → Prop) X (Z : L2.St → Hp → Prop), Rel K mg D as G ev σ H → TVs K mg as G ts vs → f ts P X ev → PG' K mg D as G P Z → (∀ σ, PX K mg E D as G σ X) → g vs σ H Z
def dgName (i : Nat) : DG := fun t P _ ev => P { ev with env := ev.env.set i (.fr t) }
def dgNil : DGs := fun ts P _ ev => match ts with
  | [] => P ev
  | _ => False
def dgCons (f : DG) (g : DGs) : DGs := fun ts P X ev => match ts with
  | t :: ts => f t (fun ev1 => g ts P X ev1) X ev
  | [] => False
def dgTup (n : Nat) (g : DGs) : DG := fun t P X ev => match t with
  | .tup ts => ts.length = n ∧ g ts P X ev
  | _ => False
theorem snd_gName {i : Nat} : SndG K mg E (gName i) (dgName i) := fun D as G ev σ H t v P X Z R tv hf hP _ => hP _ as G _ H hf (R.setF tv) Ext.refl
theorem snd_gNil : SndGs K mg E gNil dgNil := fun D as G ev σ H ts vs P X Z R tv hf hP _ => by
  cases tv with
  | nil => exact ⟨rfl, hP ev as G σ H hf R Ext.refl⟩
  | cons _ _ => exact (show False from hf).elim
theorem snd_gCons {g : TG} {gs : TGs} {f : DG} {fs : DGs} (h : SndG K mg E g f) (k : SndGs K mg E gs fs) : SndGs K mg E (gCons g gs) (dgCons f fs) := fun D as G ev σ H ts vs P X Z R tv hf hP hX => by
  cases tv with
  | nil => exact (show False from hf).elim
  | cons a b => exact ⟨_, _, rfl, h D as G ev σ H _ _ _ X _ R a hf (fun ev1 as1 G1 σ1 H1 p R1 x1 => k D as1 G1 ev1 σ1 H1 _ _ P X Z R1 (b.mono x1) p (fun ev' as' G' σ' H' a b c => hP ev' as' G' σ' H' a b (x1.trans c)) fun s => (hX s).ext x1) hX⟩
theorem snd_gTup {n : Nat} {gs : TGs} {fs : DGs} (k : SndGs K mg E gs fs) : SndG K mg E (gTup K n gs) (dgTup n fs) := fun D as G ev σ H t v P X Z R tv hf hP hX => by
  cases tv with
  | tup e b => exact ⟨_, _, rfl, SqT.le R.s.sub e, by rw [← b.length]; exact hf.1, k D as G ev σ H _ _ P X Z R b hf.2 hP hX⟩
  | _ => exact (show False from hf).elim
def dAsg (f : DE) (g : DG) : DS := fun P ev => f (fun t ev1 => g t P.nx P.ex ev1) P.ex ev
theorem snd_asg {t : TE} {g : TG} {f : DE} {d : DG} (h : Snd K mg E t f) (k : SndG K mg E g d) : SndS K mg E (tAsg t g) (dAsg f d) := fun D as G ev σ H Dn P R hf F =>
  h D as G ev σ H _ _ P.ex R hf (fun r ev1 as1 G1 v H1 p R1 x1 tv => k D as1 G1 ev1 σ H1 r v P.nx P.ex Dn.nx R1 tv p (fun ev' as' G' σ' H' a b c => F.nx ev' as' G' σ' H' a b (x1.trans c)) fun s => (F.px s).ext x1) (F.px σ)
/-- x = a new object, which stays x's own -/
def dSetO (i : Nat) (f : DE) : DS := fun P ev => f (fun t ev1 => P.nx { ev1 with env := ev1.env.set i (.ow t) }) P.ex ev
theorem snd_setO {i : Nat} {t : TE} {f : DE} (h : SndN K mg E t f) : SndS K mg E (tAsg t (gName i)) (dSetO i f) := fun D as G ev σ H Dn P R hf F =>
  h D as G ev σ H _ _ P.ex R hf (fun r ev1 as1 G1 a H1 p R1 x1 O nw => F.nx _ as1 G1 _ H1 p (R1.setO O nw) x1) (F.px σ)
/-- x, y = a, b -/
def dPar (i j : Nat) (f : DA) : DS := fun P ev => f (fun ts ev1 => match ts with
  | [t, u] => P.nx { ev1 with env := (ev1.env.set i (.fr t)).set j (.fr u) }
  | _ => False) P.ex ev
theorem snd_par {i j : Nat} {t : TA} {f : DA} (h : SndA K mg E t f) : SndS K mg E (tPar i j t) (dPar i j f) := fun D as G ev σ H Dn P R hf F =>
  h D as G ev σ H _ _ P.ex R hf (fun ts ev1 as1 G1 vs H1 p R1 x1 tv => by
    match ts, vs, tv, p with
    | [t, u], [v, w], .cons a (.cons b .nil), p => exact ⟨v, w, rfl, F.nx _ as1 G1 _ H1 p ((R1.setF a).setF b) x1⟩) (F.px σ)
def dPar3 (i j l : Nat) (f : DA) : DS := fun P ev => f (fun ts ev1 => match ts with
  | [t, u, w] => P.nx { ev1 with env := ((ev1.env.set i (.fr t)).set j (.fr u)).set l (.fr w) }
  | _ => False) P.ex ev
theorem snd_par3 {i j l : Nat} {t : TA} {f : DA} (h : SndA K mg E t f) : SndS K mg E (tPar3 i j l t) (dPar3 i j l f) := fun D as G ev σ H Dn P R hf F =>
  h D as G ev σ H _ _ P.ex R hf (fun ts ev1 as1 G1 vs H1 p R1 x1 tv => by
    match ts, vs, tv, p with
    | [t, u, y], [v, w, z], .cons a (.cons b (.cons c .nil)), p => exact ⟨v, w, z, rfl, F.nx _ as1 G1 _ H1 p (((R1.setF a).setF b).setF c) x1⟩) (F.px σ)
/-! ## loops -/
/-- the items that come, one after the other -/
structure SameD (D : En) (G H : Hp) : Prop where
  s : Same G H
  lk : ∀ a ob u, D.H a = some (.frz ob u) → H a = some (.frz ob u)
structure Wk (K : PySem.W.Frag) (mg : Str → Option Value) (D : En) (J : It) (items : List T) (as : List Addr) (G : Hp) : Prop where
  go : ∀ as2 G2 H2 (i : Nat) (t : T), Ext as G as2 G2 → SameD D G2 H2 → items[i]? = some t → J.go i H2 ∧ ∀ x H3, J.yld i H2 x H3 → (H3 = H2 ∧ TV K mg as2 G2 t x) ∨ ∃ p o, H2 p = none ∧ H3 = upd H2 p o ∧ TV K mg as2 (upd G2 p o) t x
  stop : ∀ as2 G2 H2, Ext as G as2 G2 → SameD D G2 H2 → J.stop items.length H2
abbrev DI := (List T → Ev → Prop) → DX → Ev → Prop
def SndI (K : PySem.W.Frag) (mg : Str → Option Value) (E : L2.St → XK) (w : TI) (f : DI) : Prop := ∀ D as G ev σ H (Z : It → Hp → Prop) (P : List T → Ev → Prop) X, Rel K mg D as G ev σ H → f P X ev →
  (∀ items ev' as' G' J H', P items ev' → Rel K mg D as' G' ev' σ H' → Ext as G as' G' → Wk K mg D J items as' G' → Z J H') → PX K mg E D as G σ X → w σ H Z
def dFor (it : DI) (g : DG) (b : DS) : DS := fun P ev => it (fun items ev1 => ∃ Iv : Nat → Ev → Prop, Iv 0 ev1 ∧
  (∀ (i : Nat) t ev2, items[i]? = some t → Iv i ev2 → g t (fun ev3 => b { P with nx := Iv (i + 1), ct := Iv (i + 1), bk := P.nx } ev3) P.ex ev2) ∧ ∀ ev2, Iv items.length ev2 → P.nx ev2) P.ex ev
theorem snd_for {w : TI} {g : TG} {tb : TS} {it : DI} {d : DG} {b : DS} (hi : SndI K mg E w it) (hg : SndG K mg E g d) (hb : SndS K mg E tb b) : SndS K mg E (tFor w g tb) (dFor it d b) := fun D as G ev σ H Dn P R hf F =>
  hi D as G ev σ H _ _ P.ex R hf (fun items ev1 as1 G1 J H1 ⟨Iv, h0, hs, hd⟩ R1 x1 W => by
    refine ⟨fun i m σ' H' => i + m = items.length ∧ ∃ as2 G2 ev2, Ext as1 G1 as2 G2 ∧ Rel K mg D as2 G2 ev2 σ' H' ∧ Iv i ev2, ⟨items.length, Nat.zero_add _, as1, G1, ev1, Ext.refl, R1, h0⟩, ?_⟩
    rintro i m σ' H' ⟨im, as2, G2, ev2, x2, R2, inv⟩
    cases m with
    | zero =>
      obtain rfl : i = items.length := im
      exact .inl ⟨W.stop as2 G2 H' x2 ⟨R2.s.sub, R2.c.lk⟩, F.nx ev2 as2 G2 σ' H' (hd ev2 inv) R2 (x1.trans x2)⟩
    | succ m =>
      have hi : i < items.length := by omega
      have e : items[i]? = some items[i] := List.getElem?_eq_getElem hi
      obtain ⟨go, yl⟩ := W.go as2 G2 H' i _ x2 ⟨R2.s.sub, R2.c.lk⟩ e
      have body : ∀ {G3 : Hp} {x : V} {H3 : Hp}, Rel K mg D as2 G3 ev2 σ' H3 → Ext as2 G2 as2 G3 → TV K mg as2 G3 items[i] x → g x σ' H3 fun σ2 H2 => tb { Dn with nx := fun σ' H' => (i + 1) + m = items.length ∧ ∃ as2 G2 ev2, Ext as1 G1 as2 G2 ∧ Rel K mg D as2 G2 ev2 σ' H' ∧ Iv (i + 1) ev2, ct := fun σ' H' => (i + 1) + m = items.length ∧ ∃ as2 G2 ev2, Ext as1 G1 as2 G2 ∧ Rel K mg D as2 G2 ev2 σ' H' ∧ Iv (i + 1) ev2, bk := Dn.nx } σ2 H2 := fun {G3 x H3} R3 x3 tv =>
        hg D as2 G3 ev2 σ' H3 _ x _ P.ex _ R3 tv (hs i _ ev2 e inv) (fun ev4 as4 G4 σ4 H4 p R4 x4 => hb D as4 G4 ev4 σ4 H4 _ _ R4 p
          ⟨fun ev5 as5 G5 σ5 H5 p5 R5 x5 => ⟨by omega, as5, G5, ev5, ((x2.trans x3).trans x4).trans x5, R5, p5⟩, fun ev5 as5 G5 σ5 H5 p5 R5 x5 => F.nx ev5 as5 G5 σ5 H5 p5 R5 ((((x1.trans x2).trans x3).trans x4).trans x5),
            fun ev5 as5 G5 σ5 H5 p5 R5 x5 => ⟨by omega, as5, G5, ev5, ((x2.trans x3).trans x4).trans x5, R5, p5⟩, fun r ev5 as5 G5 σ5 v H5 p5 R5 x5 rv => F.rt r ev5 as5 G5 σ5 v H5 p5 R5 ((((x1.trans x2).trans x3).trans x4).trans x5) rv,
            fun x ev5 as5 G5 σ5 c oa H5 p5 R5 x5 xv => F.ex x ev5 as5 G5 σ5 c oa H5 p5 R5 ((((x1.trans x2).trans x3).trans x4).trans x5) xv⟩) fun s => (F.px s).ext ((x1.trans x2).trans x3)
      refine .inr ⟨go, _, fun σ'' H'' p => ⟨m, Nat.lt_succ_self m, p⟩, fun x H3 y => ?_⟩
      rcases yl x H3 y with ⟨rfl, tv⟩ | ⟨p, o, hp, rfl, tv⟩
      · exact body R2 Ext.refl tv
      · exact body (R2.fz hp) (Ext.new (R2.s.sub.free hp)) tv) (F.px σ)
/-- while: what holds ahead of each test, with a number that falls -/
def dWhile (c : DT) (b : DS) : DS := fun P ev => ∃ Iv : Nat → Ev → Prop, (∃ m, Iv m ev) ∧ ∀ m ev1, Iv m ev1 → c (fun k ev2 => if k = true then b { P with nx := fun ev3 => ∃ j, j < m ∧ Iv j ev3, ct := fun ev3 => ∃ j, j < m ∧ Iv j ev3, bk := P.nx } ev2 else P.nx ev2) P.ex ev1
theorem snd_while {c : TT} {tb : TS} {d : DT} {b : DS} (hc : SndT K mg E c d) (hb : SndS K mg E tb b) : SndS K mg E (tWhile c tb) (dWhile d b) := fun D as G ev σ H Dn P R ⟨Iv, ⟨m0, h0⟩, hs⟩ F => by
  refine ⟨fun m σ' H' => ∃ as2 G2 ev2, Ext as G as2 G2 ∧ Rel K mg D as2 G2 ev2 σ' H' ∧ Iv m ev2, ⟨m0, as, G, ev, Ext.refl, R, h0⟩, ?_⟩
  rintro m σ' H' ⟨as2, G2, ev2, x2, R2, inv⟩
  refine hc D as2 G2 ev2 σ' H' _ _ P.ex R2 (hs m ev2 inv) (fun k ev3 as3 G3 H3 p R3 x3 => ?_) ((F.px σ').ext x2)
  cases k with
  | false => rw [if_neg (by simp)] at p ⊢; exact F.nx ev3 as3 G3 σ' H3 p R3 (x2.trans x3)
  | true =>
    rw [if_pos rfl] at p ⊢
    refine ⟨fun σ'' H'' => ∃ j, j < m ∧ ∃ as2 G2 ev2, Ext as G as2 G2 ∧ Rel K mg D as2 G2 ev2 σ'' H'' ∧ Iv j ev2, fun _ _ z => z, hb D as3 G3 ev3 σ' H3 _ _ R3 p ⟨?_, ?_, ?_, ?_, ?_⟩⟩
    · exact fun ev5 as5 G5 σ5 H5 ⟨j, hj, inv⟩ R5 x5 => ⟨j, hj, as5, G5, ev5, (x2.trans x3).trans x5, R5, inv⟩
    · exact fun ev5 as5 G5 σ5 H5 p5 R5 x5 => F.nx ev5 as5 G5 σ5 H5 p5 R5 ((x2.trans x3).trans x5)
    · exact fun ev5 as5 G5 σ5 H5 ⟨j, hj, inv⟩ R5 x5 => ⟨j, hj, as5, G5, ev5, (x2.trans x3).trans x5, R5, inv⟩
    · exact fun r ev5 as5 G5 σ5 v H5 p5 R5 x5 rv => F.rt r ev5 as5 G5 σ5 v H5 p5 R5 ((x2.trans x3).trans x5) rv
    · exact fun x ev5 as5 G5 σ5 c oa H5 p5 R5 x5 xv => F.ex x ev5 as5 G5 σ5 c oa H5 p5 R5 ((x2.trans x3).trans x5) xv
end
end Fu
set_option Elab.async false
set_option linter.all false
set_option maxRecDepth 100000
set_option maxHeartbeats 4000000
namespace Fu
open PySem PySem.Spec PyProof.Rows L2 Hv
/-! # comprehensions, and what is walked -/
/-- an entry at which a stands besides -/
def prot (D : En) (a : Addr) (o : HO) : En := ⟨D.as, D.G, upd D.H a o⟩
section
variable {K : PySem.W.Frag} {mg : Str → Option Value} {D : En} {as : List Addr} {G H : Hp} {ev : Ev} {σ : L2.St} {a : Addr} {o : HO}
theorem Rel.prot (R : Rel K mg D as G ev σ H) (h : H a = some o) (n : D.H a = none) (na : a ∉ as) (g : G a = none) (nw : ¬ InOw ev σ a) : Rel K mg (prot D a o) as G ev σ H := by
  obtain ⟨m, e, hm⟩ := R.c.more
  refine ⟨R.s, ⟨⟨m, e, fun b hb => ?_⟩, R.c.g, fun b hb => ?_, fun b u hb e2 => ?_, fun b hb => ?_, fun b ob u e2 => ?_⟩, R.len, R.fr, fun i t e2 => ?_, R.sep⟩
  · show upd D.H a o b = none
    rw [upd_ne (fun z => na (by rw [e, ← z]; exact List.mem_append_right _ hb))]
    exact hm b hb
  · rcases R.c.gn b hb with h1 | h1
    · exact .inl h1
    · refine .inr ?_
      show upd D.H a o b = none
      rw [upd_ne (fun z => hb (by rw [z]; exact g))]
      exact h1
  · have e3 : upd D.H a o b = some u := e2
    by_cases z : b = a
    · rw [z, upd_same] at e3
      cases e3
      rw [z]; exact h
    · rw [upd_ne z] at e3; exact R.c.fr b u hb e3
  · show upd D.H a o b = none
    rw [upd_ne (fun z => by rw [z, h] at hb; cases hb)]
    exact R.c.keep b hb
  · have e3 : upd D.H a o b = some (.frz ob u) := e2
    by_cases z : b = a
    · rw [z, upd_same] at e3
      cases e3
      rw [z]; exact h
    · rw [upd_ne z] at e3; exact R.c.lk b ob u e3
  · obtain ⟨b, h1, h2⟩ := R.ow i t e2
    refine ⟨b, h1, h2.ob, h2.g, h2.na, ?_⟩
    show upd D.H a o b = none
    rw [upd_ne (fun z => nw ⟨i, t, e2, by rw [← z]; exact h1⟩)]
    exact h2.new
theorem Rel.unprot (R : Rel K mg (Fu.prot D a o) as G ev σ H) (n : D.H a = none) (na : a ∉ D.as) (g : D.G a = none) : Rel K mg D as G ev σ H ∧ H a = some o ∧ a ∉ as ∧ G a = none ∧ ¬ InOw ev σ a := by
  obtain ⟨m, e, hm⟩ := R.c.more
  have sub : ∀ b, upd D.H a o b = none → D.H b = none := fun b h => by
    by_cases z : b = a
    · rw [z]; exact n
    · rw [upd_ne z] at h; exact h
  refine ⟨⟨R.s, ⟨⟨m, e, fun b hb => sub b (hm b hb)⟩, R.c.g, fun b hb => (R.c.gn b hb).imp id (sub b), fun b u hb e2 => R.c.fr b u hb ?_, fun b hb => sub b (R.c.keep b hb), fun b ob u e2 => R.c.lk b ob u ?_⟩, R.len, R.fr, fun i t e2 => ?_, R.sep⟩, R.c.fr a o na upd_same, fun z => ?_, ?_, ?_⟩
  · show upd D.H a o b = some u
    rw [upd_ne (ne_of_none e2 n)]; exact e2
  · show upd D.H a o b = some (.frz ob u)
    rw [upd_ne (ne_of_none e2 n)]; exact e2
  · obtain ⟨b, h1, h2⟩ := R.ow i t e2
    exact ⟨b, h1, h2.ob, h2.g, h2.na, sub b h2.new⟩
  · rw [e] at z
    rcases List.mem_append.mp z with z | z
    · exact na z
    · have q : upd D.H a o a = none := hm a z
      rw [upd_same] at q
      cases q
  · cases q : G a with
    | none => rfl
    | some u =>
      rcases R.c.gn a (by rw [q]; exact fun z => nomatch z) with h | h
      · exact absurd g h
      · have h' : upd D.H a o a = none := h
        rw [upd_same] at h'
        cases h'
  · rintro ⟨i, t, e1, e2⟩
    obtain ⟨b, h1, h2⟩ := R.ow i t e1
    rw [e2] at h1
    cases h1
    have h' : upd D.H a o a = none := h2.new
    rw [upd_same] at h'
    cases h'
theorem Rel.out (R : Rel K mg D as G ev σ H) (na : a ∉ as) (g : G a = none) : a ∉ D.as ∧ D.G a = none := by
  obtain ⟨m, e, _⟩ := R.c.more
  exact ⟨fun z => na (by rw [e]; exact List.mem_append_left _ z), R.c.g.free g⟩
/-! ## slots forgotten -/
def wipeE (env : List Sl) : List Nat → List Sl
  | [] => env
  | v :: vs => (wipeE env vs).set v .no
def wiped (vs : List Nat) (ev : Ev) : Ev := { ev with env := wipeE ev.env vs }
/-- as they were ahead, where they were known to stay -/
def unE (old new : List Sl) : List Nat → List Sl
  | [] => new
  | v :: vs => (unE old new vs).set v (match old[v]? with
    | some (.fr t) => .fr t
    | _ => .no)
def unw (vs : List Nat) (old ev : Ev) : Ev := { ev with env := unE old.env ev.env vs }
theorem Rel.setNo (R : Rel K mg D as G ev σ H) (i : Nat) (x : Option V) : Rel K mg D as G { ev with env := ev.env.set i .no } (σ.set i x) H := by
  have get : ∀ (j : Nat) (y : Sl), (ev.env.set i .no)[j]? = some y → y ≠ .no → j ≠ i ∧ ev.env[j]? = some y := fun j y e ny => by
    by_cases q : j = i
    · subst q
      have hl : j < ev.env.length := by have := (List.getElem?_eq_some_iff.mp e).1; simpa using this
      rw [List.getElem?_set_self hl] at e
      cases e
      exact absurd rfl ny
    · rw [List.getElem?_set_ne (fun z => q z.symm)] at e
      exact ⟨q, e⟩
  have ne : ∀ {j : Nat}, j ≠ i → (σ.set i x)[j]? = σ[j]? := fun q => List.getElem?_set_ne (fun z => q z.symm)
  refine ⟨R.s, R.c, by simp [R.len], fun j t e => ?_, fun j t e => ?_, fun j k t u b e1 e2 f1 f2 => ?_⟩
  · obtain ⟨n, q⟩ := get j _ e (fun z => nomatch z)
    obtain ⟨v, h1, h2⟩ := R.fr j t q
    exact ⟨v, by rw [ne n]; exact h1, h2⟩
  · obtain ⟨n, q⟩ := get j _ e (fun z => nomatch z)
    obtain ⟨v, h1, h2⟩ := R.ow j t q
    exact ⟨v, by rw [ne n]; exact h1, h2⟩
  · obtain ⟨n1, q1⟩ := get j _ e1 (fun z => nomatch z)
    obtain ⟨n2, q2⟩ := get k _ e2 (fun z => nomatch z)
    rw [ne n1] at f1
    rw [ne n2] at f2
    exact R.sep j k t u b q1 q2 f1 f2
theorem Rel.wipe : ∀ {vs : List Nat}, Rel K mg D as G ev σ H → Rel K mg D as G (wiped vs ev) (L2.wipe σ vs) H
  | [], R => R
  | v :: vs, R => (Rel.wipe (vs := vs) R).setNo v none
theorem wipe_get (i : Nat) : ∀ (vs : List Nat) (σ : L2.St), (wipe σ vs)[i]? = if i ∈ vs then σ[i]?.map (fun _ => none) else σ[i]?
  | [], σ => by simp [L2.wipe]
  | v :: vs, σ => by
    have ih := wipe_get i vs σ
    unfold L2.wipe
    by_cases q : v = i
    · subst q
      rw [List.getElem?_set]
      simp only [List.mem_cons, true_or, if_true]
      rw [L2.wipe_length]
      by_cases hl : v < σ.length
      · simp [hl]
      · simp [hl]
    · rw [List.getElem?_set_ne q, ih]
      have : (i ∈ v :: vs) = (i ∈ vs) := by simp [List.mem_cons, Ne.symm q, eq_comm, q]
      simp only [this]
theorem wipe_wipe (σ : L2.St) (vs : List Nat) : wipe (wipe σ vs) vs = wipe σ vs := by
  apply List.ext_getElem?
  intro i
  rw [wipe_get, wipe_get]
  split
  · cases σ[i]? <;> rfl
  · rfl
theorem wipe_set (σ : L2.St) {vs : List Nat} {i : Nat} (h : i ∈ vs) (x : Option V) : wipe (σ.set i x) vs = wipe σ vs := by
  apply List.ext_getElem?
  intro j
  rw [wipe_get, wipe_get]
  by_cases q : j = i
  · subst q
    rw [if_pos h, if_pos h]
    by_cases hl : j < σ.length
    · rw [List.getElem?_set_self hl, List.getElem?_eq_getElem hl]; rfl
    · rw [List.getElem?_eq_none (by simpa using hl), List.getElem?_eq_none (by simpa using hl)]
  · rw [List.getElem?_set_ne (fun z => q z.symm)]
theorem wipe_some' {σ : L2.St} {i : Nat} {x : V} {vs : List Nat} (h : (wipe σ vs)[i]? = some (some x)) : σ[i]? = some (some x) ∧ i ∉ vs := by
  rw [wipe_get] at h
  split at h
  · cases q : σ[i]? with
    | none => rw [q] at h; cases h
    | some y => rw [q] at h; cases h
  · exact ⟨h, by assumption⟩
theorem notOw_wipe {vs : List Nat} (n : ¬ InOw ev σ a) : ¬ InOw (wiped vs ev) (wipe σ vs) a := by
  rintro ⟨i, t, e1, e2⟩
  obtain ⟨h, hi⟩ := wipe_some' e2
  refine n ⟨i, t, ?_, h⟩
  have : ∀ ws : List Nat, i ∉ ws → (wipeE ev.env ws)[i]? = ev.env[i]? := by
    intro ws
    induction ws with
    | nil => intro _; rfl
    | cons w ws ih =>
      intro hw
      show ((wipeE ev.env ws).set w .no)[i]? = _
      rw [List.getElem?_set_ne (fun z => hw (by rw [z]; exact List.mem_cons_self))]
      exact ih fun z => hw (List.mem_cons_of_mem _ z)
  rw [← this vs hi]
  exact e1
theorem unE_get (old new : List Sl) (i : Nat) : ∀ vs : List Nat, i ∉ vs → (unE old new vs)[i]? = new[i]?
  | [], _ => rfl
  | v :: vs, h => by
    show ((unE old new vs).set v _)[i]? = _
    rw [List.getElem?_set_ne (fun z => h (by rw [z]; exact List.mem_cons_self))]
    exact unE_get old new i vs fun z => h (List.mem_cons_of_mem _ z)
theorem unE_in (old new : List Sl) (i : Nat) (s : Sl) : ∀ vs : List Nat, i ∈ vs → (unE old new vs)[i]? = some s → s = .no ∨ ∃ t, s = .fr t ∧ old[i]? = some (.fr t)
  | [], h, _ => absurd h (by simp)
  | v :: vs, h, e => by
    have e' : ((unE old new vs).set v (match old[v]? with
      | some (.fr t) => .fr t
      | _ => .no))[i]? = some s := e
    by_cases q : v = i
    · subst q
      have hl : v < (unE old new vs).length := by have := (List.getElem?_eq_some_iff.mp e').1; simpa using this
      rw [List.getElem?_set_self hl] at e'
      cases e'
      split
      · rename_i t ht
        exact .inr ⟨t, rfl, ht⟩
      · exact .inl rfl
    · rw [List.getElem?_set_ne q] at e'
      rcases List.mem_cons.mp h with z | z
      · exact absurd z.symm q
      · exact unE_in old new i s vs z e'
theorem unE_len (old new : List Sl) : ∀ vs : List Nat, (unE old new vs).length = new.length
  | [] => rfl
  | v :: vs => by show ((unE old new vs).set v _).length = _; rw [List.length_set]; exact unE_len old new vs
theorem Rel.unwipe {ev1 : Ev} {as1 : List Addr} {G1 H1 : Hp} {vs : List Nat} (R : Rel K mg D as G ev (L2.wipe σ vs) H) (R1 : Rel K mg D as1 G1 ev1 σ H1) (x : Ext as1 G1 as G) : Rel K mg D as G (unw vs ev1 ev) σ H := by
  refine ⟨R.s, R.c, ?_, fun i t e => ?_, fun i t e => ?_, fun i j t u b e1 e2 f1 f2 => ?_⟩
  · show (unE ev1.env ev.env vs).length = _
    rw [unE_len, R.len, L2.wipe_length]
  · by_cases h : i ∈ vs
    · rcases unE_in _ _ i _ vs h e with q | ⟨u, q, q2⟩
      · cases q
      · cases q
        obtain ⟨v, h1, h2⟩ := R1.fr i _ q2
        exact ⟨v, h1, h2.mono x⟩
    · have e' : (unE ev1.env ev.env vs)[i]? = some (.fr t) := e
      rw [unE_get _ _ i vs h] at e'
      obtain ⟨v, h1, h2⟩ := R.fr i t e'
      exact ⟨v, (wipe_some' h1).1, h2⟩
  · by_cases h : i ∈ vs
    · rcases unE_in _ _ i _ vs h e with q | ⟨u, q, _⟩ <;> cases q
    · have e' : (unE ev1.env ev.env vs)[i]? = some (.ow t) := e
      rw [unE_get _ _ i vs h] at e'
      obtain ⟨b, h1, h2⟩ := R.ow i t e'
      exact ⟨b, (wipe_some' h1).1, h2⟩
  · have no : ∀ {i : Nat} {t : T}, (unw vs ev1 ev).env[i]? = some (.ow t) → i ∉ vs ∧ ev.env[i]? = some (.ow t) := fun {i t} e => by
      by_cases h : i ∈ vs
      · rcases unE_in _ _ i _ vs h e with q | ⟨u, q, _⟩ <;> cases q
      · have e' : (unE ev1.env ev.env vs)[i]? = some (.ow t) := e
        rw [unE_get _ _ i vs h] at e'
        exact ⟨h, e'⟩
    obtain ⟨n1, q1⟩ := no e1
    obtain ⟨n2, q2⟩ := no e2
    exact R.sep i j t u b q1 q2 (by rw [wipe_get, if_neg n1]; exact f1) (by rw [wipe_get, if_neg n2]; exact f2)
theorem notOw_un {ev1 : Ev} {vs : List Nat} (n : ¬ InOw ev (wipe σ vs) a) : ¬ InOw (unw vs ev1 ev) σ a := by
  rintro ⟨i, t, e1, e2⟩
  by_cases h : i ∈ vs
  · rcases unE_in _ _ i _ vs h e1 with q | ⟨u, q, _⟩ <;> cases q
  · have e' : (unE ev1.env ev.env vs)[i]? = some (.ow t) := e1
    rw [unE_get _ _ i vs h] at e'
    exact n ⟨i, t, e', by rw [wipe_get, if_neg h]; exact e2⟩
end
/-- nothing is wanted of an exception -/
def E0 : L2.St → XK := fun _ _ _ _ => False
def X0 : DX := fun _ _ => False
section
variable {K : PySem.W.Frag} {mg : Str → Option Value} {E : L2.St → XK}
theorem px0 {D : En} {as : List Addr} {G : Hp} {σ : L2.St} : PX K mg E D as G σ X0 := fun _ _ _ _ _ _ _ z => z.elim
/-! ## targets within a comprehension -/
def SndW (K : PySem.W.Frag) (mg : Str → Option Value) (E : L2.St → XK) (vs : List Nat) (g : TG) (f : DG) : Prop := ∀ D as G ev σ H t v (P : Ev → Prop) X (Z : L2.St → Hp → Prop), Rel K mg D as G ev σ H → TV K mg as G t v → f t P X ev →
  (∀ ev' as' G' σ' H', P ev' → Rel K mg D as' G' ev' σ' H' → Ext as G as' G' → wipe σ' vs = wipe σ vs → Z σ' H') → g v σ H Z
def SndWs (K : PySem.W.Frag) (mg : Str → Option Value) (E : L2.St → XK) (vs : List Nat) (g : TGs) (f : DGs) : Prop := ∀ D as G ev σ H ts us (P : Ev → Prop) X (Z : L2.St → Hp → Prop), Rel K mg D as G ev σ H → TVs K mg as G ts us → f ts P X ev →
  (∀ ev' as' G' σ' H', P ev' → Rel K mg D as' G' ev' σ' H' → Ext as G as' G' → wipe σ' vs = wipe σ vs → Z σ' H') → g us σ H Z
theorem snd_wName {i : Nat} {vs : List Nat} (h : i ∈ vs) : SndW K mg E vs (gName i) (dgName i) := fun D as G ev σ H t v P X Z R tv hf hP => hP _ as G _ H hf (R.setF tv) Ext.refl (wipe_set σ h _)
theorem snd_wNil {vs : List Nat} : SndWs K mg E vs gNil dgNil := fun D as G ev σ H ts us P X Z R tv hf hP => by
  cases tv with
  | nil => exact ⟨rfl, hP ev as G σ H hf R Ext.refl rfl⟩
  | cons _ _ => exact (show False from hf).elim
theorem snd_wCons {vs : List Nat} {g : TG} {gs : TGs} {f : DG} {fs : DGs} (h : SndW K mg E vs g f) (k : SndWs K mg E vs gs fs) : SndWs K mg E vs (gCons g gs) (dgCons f fs) := fun D as G ev σ H ts us P X Z R tv hf hP => by
  cases tv with
  | nil => exact (show False from hf).elim
  | cons a b => exact ⟨_, _, rfl, h D as G ev σ H _ _ _ X _ R a hf (fun ev1 as1 G1 σ1 H1 p R1 x1 w1 => k D as1 G1 ev1 σ1 H1 _ _ P X Z R1 (b.mono x1) p (fun ev' as' G' σ' H' a b c w => hP ev' as' G' σ' H' a b (x1.trans c) (w.trans w1)))⟩
theorem snd_wTup {vs : List Nat} {n : Nat} {gs : TGs} {fs : DGs} (k : SndWs K mg E vs gs fs) : SndW K mg E vs (gTup K n gs) (dgTup n fs) := fun D as G ev σ H t v P X Z R tv hf hP => by
  cases tv with
  | tup e b => exact ⟨_, _, rfl, SqT.le R.s.sub e, by rw [← b.length]; exact hf.1, k D as G ev σ H _ _ P X Z R b hf.2 hP⟩
  | _ => exact (show False from hf).elim
def dYes : DT := fun P _ ev => P true ev
theorem snd_yes : SndT K mg E tYes dYes := fun D as G ev σ H Q P X R hf hP hX => hP true ev as G H hf R Ext.refl
/-! ## [.. for .. in ..] -/
def dLc (it : DI) (g : DG) (tt : DT) (te : DE) (vs : List Nat) : DE := fun P X ev => it (fun items ev1 => ∃ Iv : Nat → List T → Ev → Prop, Iv 0 [] (wiped vs ev1) ∧
  (∀ (i : Nat) t acc ev2, items[i]? = some t → Iv i acc ev2 → g t (fun ev3 => tt (fun b ev4 => if b = true then te (fun r ev5 => acc.length < sizeLine ∧ Iv (i + 1) (acc ++ [r]) (wiped vs ev5)) X0 ev4 else Iv (i + 1) acc (wiped vs ev4)) X0 ev3) X0 ev2) ∧
  ∀ acc ev2, Iv items.length acc ev2 → P (.lst acc) (unw vs ev1 ev2)) X ev
theorem lc_run {g : TG} {tt : TT} {te : TE} {vs : List Nat} {d : DG} {dt : DT} {f : DE} (hg : SndW K mg E0 vs g d) (ht : SndT K mg E0 tt dt) (he : Snd K mg E0 te f) {D : En} {as1 : List Addr} {G1 H1 : Hp} {ev1 : Ev} {σ : L2.St} {Q : VK} {P : T → Ev → Prop} {J : It} {items : List T} (R1 : Rel K mg D as1 G1 ev1 σ H1) (hP : PN K mg D as1 G1 σ P Q) (h : ∃ Iv : Nat → List T → Ev → Prop, Iv 0 [] (wiped vs ev1) ∧
  (∀ (i : Nat) t acc ev2, items[i]? = some t → Iv i acc ev2 → d t (fun ev3 => dt (fun b ev4 => if b = true then f (fun r ev5 => acc.length < sizeLine ∧ Iv (i + 1) (acc ++ [r]) (wiped vs ev5)) X0 ev4 else Iv (i + 1) acc (wiped vs ev4)) X0 ev3) X0 ev2) ∧
  ∀ acc ev2, Iv items.length acc ev2 → P (.lst acc) (unw vs ev1 ev2)) (W : Wk K mg D J items as1 G1) : tLc (fun _ H Z => Z J H) g tt te vs σ H1 Q := fun Da hD => by
    obtain ⟨Iv, h0, hs, hd⟩ := h
    have nD : D.H Da = none := R1.c.keep Da hD
    refine ⟨fun i m H' => i + m = items.length ∧ ∃ as2 G2 ev2 acc us, Ext as1 G1 as2 G2 ∧ Rel K mg D as2 G2 ev2 (wipe σ vs) H' ∧ TVs K mg as2 G2 acc us ∧ H' Da = some (.lst us) ∧ Da ∉ as2 ∧ G2 Da = none ∧ ¬ InOw ev2 (wipe σ vs) Da ∧ Iv i acc ev2,
      ⟨items.length, Nat.zero_add _, as1, G1, _, [], [], Ext.refl, (R1.new hD).wipe, .nil, upd_same, fun z => (R1.s.mem z).1 hD, R1.s.sub.free hD, notOw_wipe (R1.notOw hD), h0⟩, ?_⟩
    rintro i m H' ⟨im, as2, G2, ev2, acc, us, x2, R2, tvs, hDa, naD, gD, nwD, iv⟩
    cases m with
    | zero =>
      obtain rfl : i = items.length := im
      exact .inl ⟨W.stop as2 G2 H' x2 ⟨R2.s.sub, R2.c.lk⟩, hP _ _ as2 G2 Da H' (hd acc ev2 iv) (R2.unwipe R1 x2) x2 ⟨⟨_, hDa, .lst tvs⟩, gD, naD, nD⟩ (notOw_un nwD)⟩
    | succ m =>
      have hlt : i < items.length := by omega
      have e : items[i]? = some items[i] := List.getElem?_eq_getElem hlt
      obtain ⟨go, yl⟩ := W.go as2 G2 H' i _ x2 ⟨R2.s.sub, R2.c.lk⟩ e
      -- one turn
      have turn : ∀ {G3 : Hp} {x : V} {H3 : Hp}, Rel K mg D as2 G3 ev2 (wipe σ vs) H3 → Ext as2 G2 as2 G3 → TV K mg as2 G3 items[i] x → H3 Da = some (.lst us) → G3 Da = none →
          g x (wipe σ vs) H3 fun σ2 H2 => wipe σ2 vs = wipe σ vs ∧ tt σ2 H2 fun b H3 => if b = true then te σ2 H3 fun y H4 => ∃ acc, H4 Da = some (.lst acc) ∧ acc.length < sizeLine ∧
            ((i + 1) + m = items.length ∧ ∃ as2 G2 ev2 ac us, Ext as1 G1 as2 G2 ∧ Rel K mg D as2 G2 ev2 (wipe σ vs) (upd H4 Da (.lst (acc ++ [y]))) ∧ TVs K mg as2 G2 ac us ∧ (upd H4 Da (.lst (acc ++ [y]))) Da = some (.lst us) ∧ Da ∉ as2 ∧ G2 Da = none ∧ ¬ InOw ev2 (wipe σ vs) Da ∧ Iv (i + 1) ac ev2)
            else ((i + 1) + m = items.length ∧ ∃ as2 G2 ev2 ac us, Ext as1 G1 as2 G2 ∧ Rel K mg D as2 G2 ev2 (wipe σ vs) H3 ∧ TVs K mg as2 G2 ac us ∧ H3 Da = some (.lst us) ∧ Da ∉ as2 ∧ G2 Da = none ∧ ¬ InOw ev2 (wipe σ vs) Da ∧ Iv (i + 1) ac ev2) := by
        intro G3 x H3 R3 x3 tv hDa3 gD3
        have R3p := R3.prot hDa3 nD naD gD3 nwD
        obtain ⟨o1, o2⟩ := R2.out naD gD
        refine hg _ as2 G3 ev2 (wipe σ vs) H3 _ x _ X0 _ R3p tv (hs i _ acc ev2 e iv) fun ev4 as4 G4 σ4 H4 p4 R4 x4 w4 => ⟨by rw [w4, wipe_wipe], ?_⟩
        refine ht _ as4 G4 ev4 σ4 H4 _ _ X0 R4 p4 (fun b ev5 as5 G5 H5 p5 R5 x5 => ?_) px0
        cases b with
        | false =>
          rw [if_neg (by simp)] at p5 ⊢
          obtain ⟨R6, h6, n6, g6, nw6⟩ := R5.unprot nD o1 o2
          have R7 := R6.wipe (vs := vs)
          rw [w4, wipe_wipe] at R7
          have nw7 := notOw_wipe (vs := vs) nw6
          rw [w4, wipe_wipe] at nw7
          exact ⟨by omega, as5, G5, _, acc, us, (((x2.trans x3).trans x4).trans x5), R7, tvs.mono ((x3.trans x4).trans x5), h6, n6, g6, nw7, p5⟩
        | true =>
          rw [if_pos rfl] at p5 ⊢
          refine he _ as5 G5 ev5 σ4 H5 _ _ X0 R5 p5 (fun r ev6 as6 G6 y H6 p6 R6 x6 tv6 => ?_) px0
          obtain ⟨R7, h7, n7, g7, nw7⟩ := R6.unprot nD o1 o2
          have tv7 := tvs.mono (((x3.trans x4).trans x5).trans x6)
          refine ⟨us, h7, by rw [← tvs.length]; exact p6.1, by omega, as6, G6, _, acc ++ [r], us ++ [y], ((((x2.trans x3).trans x4).trans x5).trans x6), ?_, tv7.app (.cons tv6 .nil), upd_same, n7, g7, ?_, p6.2⟩
          · have R8 := (R7.chg (u := .lst (us ++ [y])) (t := .lst acc) ⟨⟨_, h7, .lst tv7⟩, g7, n7, nD⟩ nw7).wipe (vs := vs)
            rw [w4, wipe_wipe] at R8
            exact R8
          · have nw8 := notOw_wipe (vs := vs) nw7
            rw [w4, wipe_wipe] at nw8
            exact nw8
      refine .inr ⟨go, _, fun H'' z => ⟨m, Nat.lt_succ_self m, z⟩, fun x H3 y => ?_⟩
      rcases yl x H3 y with ⟨rfl, tv⟩ | ⟨p, o, hp, rfl, tv⟩
      · exact turn R2 Ext.refl tv hDa gD
      · have np : Da ≠ p := fun z => by rw [z, hp] at hDa; cases hDa
        exact turn (R2.fz hp) (Ext.new (R2.s.sub.free hp)) tv (by rw [upd_ne np]; exact hDa) (by rw [upd_ne np]; exact gD)
theorem snd_lc {w : TI} {g : TG} {tt : TT} {te : TE} {vs : List Nat} {it : DI} {d : DG} {dt : DT} {f : DE} (hi : SndI K mg E w it) (hg : SndW K mg E0 vs g d) (ht : SndT K mg E0 tt dt) (he : Snd K mg E0 te f) : SndN K mg E (tLc w g tt te vs) (dLc it d dt f vs) := fun D as G ev σ H Q P X R hf hP hX =>
  hi D as G ev σ H _ _ X R hf (fun items ev1 as1 G1 J H1 h R1 x1 W => lc_run hg ht he R1 (hP.ext x1) h W) hX
/-! ## {..: .. for .. in ..} -/
def toKey : T → Option Key
  | .int i => some (.inl i)
  | .str x => some (.inr x)
  | _ => none
def putT (kts : List (Key × T)) (k : Key) (t : T) : List (Key × T) :=
  if (kts.any fun kv => decide (kv.1 = k)) = true then kts.map (fun kv => if kv.1 = k then (kv.1, t) else kv) else kts ++ [(k, t)]
def valT (kts : List (Key × T)) (k : Key) : Option T := (kts.find? fun kv => decide (kv.1 = k)).map (·.2)
/-- pairs beside pairs -/
def TKs (K : PySem.W.Frag) (mg : Str → Option Value) (as : List Addr) (G : Hp) (kts : List (Key × T)) (kvs : List (Key × V)) : Prop := kts.map (·.1) = kvs.map (·.1) ∧ TVs K mg as G (kts.map (·.2)) (kvs.map (·.2))
section
variable {as as' : List Addr} {G G' : Hp}
theorem TKs.mono (x : Ext as G as' G') {kts : List (Key × T)} {kvs : List (Key × V)} (h : TKs K mg as G kts kvs) : TKs K mg as' G' kts kvs := ⟨h.1, h.2.mono x⟩
theorem TKs.length {kts : List (Key × T)} {kvs : List (Key × V)} (h : TKs K mg as G kts kvs) : kts.length = kvs.length := by
  have := congrArg List.length h.1
  simpa using this
theorem TKs.cons' {p : Key × T} {kts : List (Key × T)} {kvs : List (Key × V)} (h : TKs K mg as G (p :: kts) kvs) : ∃ q rs, kvs = q :: rs ∧ p.1 = q.1 ∧ TV K mg as G p.2 q.2 ∧ TKs K mg as G kts rs := by
  cases kvs with
  | nil => have := h.1; simp at this
  | cons q rs =>
    obtain ⟨h1, h2⟩ := h
    have e1 := (List.cons.inj h1)
    cases h2 with
    | cons a b => exact ⟨q, rs, rfl, e1.1, a, e1.2, b⟩
theorem TKs.any (k : Key) : ∀ {kts : List (Key × T)} {kvs : List (Key × V)}, TKs K mg as G kts kvs → (kvs.any fun kv => decide (kv.1 = k)) = (kts.any fun kv => decide (kv.1 = k))
  | [], kvs, h => by have := h.length; cases kvs with
    | nil => rfl
    | cons _ _ => simp at this
  | p :: kts, kvs, h => by
    obtain ⟨q, rs, rfl, e, _, hr⟩ := h.cons'
    simp only [List.any_cons, e, TKs.any k hr]
theorem TKs.map (k : Key) {t : T} {v : V} (tv : TV K mg as G t v) : ∀ {kts : List (Key × T)} {kvs : List (Key × V)}, TKs K mg as G kts kvs → TKs K mg as G (kts.map (fun kv => if kv.1 = k then (kv.1, t) else kv)) (kvs.map (fun kv => if kv.1 = k then (kv.1, v) else kv))
  | [], kvs, h => by have := h.length; cases kvs with
    | nil => exact ⟨rfl, .nil⟩
    | cons _ _ => simp at this
  | p :: kts, kvs, h => by
    obtain ⟨q, rs, rfl, e, a, hr⟩ := h.cons'
    obtain ⟨h1, h2⟩ := TKs.map k tv hr
    simp only [List.map_cons]
    by_cases z : q.1 = k
    · rw [if_pos (e.trans z), if_pos z]
      exact ⟨by simp only [List.map_cons]; rw [h1, e], .cons tv h2⟩
    · rw [if_neg (fun y => z (e ▸ y)), if_neg z]
      exact ⟨by simp only [List.map_cons]; rw [h1, e], .cons a h2⟩
theorem TKs.app {kts kt2 : List (Key × T)} {kvs kv2 : List (Key × V)} (h : TKs K mg as G kts kvs) (h2 : TKs K mg as G kt2 kv2) : TKs K mg as G (kts ++ kt2) (kvs ++ kv2) :=
  ⟨by rw [List.map_append, List.map_append, h.1, h2.1], by rw [List.map_append, List.map_append]; exact h.2.app h2.2⟩
theorem TKs.put (k : Key) {t : T} {v : V} (tv : TV K mg as G t v) {kts : List (Key × T)} {kvs : List (Key × V)} (h : TKs K mg as G kts kvs) : TKs K mg as G (putT kts k t) (putK kvs k v) := by
  unfold putT putK
  rw [h.any k]
  split
  · exact h.map k tv
  · exact h.app ⟨rfl, .cons tv .nil⟩
theorem TKs.val (k : Key) : ∀ {kts : List (Key × T)} {kvs : List (Key × V)}, TKs K mg as G kts kvs → (valT kts k = none ∧ valV kvs k = none) ∨ ∃ t v, valT kts k = some t ∧ valV kvs k = some v ∧ TV K mg as G t v
  | [], kvs, h => by have := h.length; cases kvs with
    | nil => exact .inl ⟨rfl, rfl⟩
    | cons _ _ => simp at this
  | p :: kts, kvs, h => by
    obtain ⟨q, rs, rfl, e, a, hr⟩ := h.cons'
    by_cases z : q.1 = k
    · exact .inr ⟨p.2, q.2, by simp [valT, List.find?_cons, e.trans z], valV_pos z, a⟩
    · rcases TKs.val k hr with ⟨h1, h2⟩ | ⟨t, v, h1, h2, h3⟩
      · exact .inl ⟨by rw [← h1]; simp [valT, List.find?_cons, show ¬ p.1 = k from fun y => z (e ▸ y)], by rw [valV_neg z]; exact h2⟩
      · exact .inr ⟨t, v, by rw [← h1]; simp [valT, List.find?_cons, show ¬ p.1 = k from fun y => z (e ▸ y)], by rw [valV_neg z]; exact h2, h3⟩
theorem TV.key {t : T} {v : V} {k : Key} (h : TV K mg as G t v) (e : toKey t = some k) : v = kV k := by
  cases h with
  | int i => cases e; rfl
  | str i => cases e; rfl
  | _ => cases e
end
def dDc (it : DI) (g : DG) (tt : DT) (tk tv : DE) (vs : List Nat) : DE := fun P X ev => it (fun items ev1 => ∃ Iv : Nat → List (Key × T) → Ev → Prop, Iv 0 [] (wiped vs ev1) ∧
  (∀ (i : Nat) t acc ev2, items[i]? = some t → Iv i acc ev2 → g t (fun ev3 => tt (fun b ev4 => if b = true then tk (fun kt ev5 => tv (fun r ev6 => ∃ k, toKey kt = some k ∧ acc.length < sizeLine ∧ Iv (i + 1) (putT acc k r) (wiped vs ev6)) X0 ev5) X0 ev4 else Iv (i + 1) acc (wiped vs ev4)) X0 ev3) X0 ev2) ∧
  ∀ acc ev2, Iv items.length acc ev2 → P (.dct acc) (unw vs ev1 ev2)) X ev
theorem snd_dc {w : TI} {g : TG} {tt : TT} {tk tv : TE} {vs : List Nat} {it : DI} {d : DG} {dt : DT} {fk fv : DE} (hi : SndI K mg E w it) (hg : SndW K mg E0 vs g d) (ht : SndT K mg E0 tt dt) (hk : Snd K mg E0 tk fk) (he : Snd K mg E0 tv fv) : SndN K mg E (tDc w g tt tk tv vs) (dDc it d dt fk fv vs) := fun D as G ev σ H Q P X R hf hP hX =>
  hi D as G ev σ H _ _ X R hf (fun items ev1 as1 G1 J H1 ⟨Iv, h0, hs, hd⟩ R1 x1 W Da hD => by
    have nD : D.H Da = none := R1.c.keep Da hD
    refine ⟨fun i m H' => i + m = items.length ∧ ∃ as2 G2 ev2 acc us, Ext as1 G1 as2 G2 ∧ Rel K mg D as2 G2 ev2 (wipe σ vs) H' ∧ TKs K mg as2 G2 acc us ∧ H' Da = some (.dK us) ∧ Da ∉ as2 ∧ G2 Da = none ∧ ¬ InOw ev2 (wipe σ vs) Da ∧ Iv i acc ev2,
      ⟨items.length, Nat.zero_add _, as1, G1, _, [], [], Ext.refl, (R1.new hD).wipe, ⟨rfl, .nil⟩, upd_same, fun z => (R1.s.mem z).1 hD, R1.s.sub.free hD, notOw_wipe (R1.notOw hD), h0⟩, ?_⟩
    rintro i m H' ⟨im, as2, G2, ev2, acc, us, x2, R2, tvs, hDa, naD, gD, nwD, iv⟩
    cases m with
    | zero =>
      obtain rfl : i = items.length := im
      exact .inl ⟨W.stop as2 G2 H' x2 ⟨R2.s.sub, R2.c.lk⟩, hP _ _ as2 G2 Da H' (hd acc ev2 iv) (R2.unwipe R1 x2) (x1.trans x2) ⟨⟨_, hDa, .dct tvs.1 tvs.2⟩, gD, naD, nD⟩ (notOw_un nwD)⟩
    | succ m =>
      have hlt : i < items.length := by omega
      have e : items[i]? = some items[i] := List.getElem?_eq_getElem hlt
      obtain ⟨go, yl⟩ := W.go as2 G2 H' i _ x2 ⟨R2.s.sub, R2.c.lk⟩ e
      have turn : ∀ {G3 : Hp} {x : V} {H3 : Hp}, Rel K mg D as2 G3 ev2 (wipe σ vs) H3 → Ext as2 G2 as2 G3 → TV K mg as2 G3 items[i] x → H3 Da = some (.dK us) → G3 Da = none →
          g x (wipe σ vs) H3 fun σ2 H2 => wipe σ2 vs = wipe σ vs ∧ tt σ2 H2 fun b H3 => if b = true then tk σ2 H3 fun y H4 => tv σ2 H4 fun z H5 => ∃ kvs k, y = kV k ∧ H5 Da = some (.dK kvs) ∧ kvs.length < sizeLine ∧
            ((i + 1) + m = items.length ∧ ∃ as2 G2 ev2 ac us, Ext as1 G1 as2 G2 ∧ Rel K mg D as2 G2 ev2 (wipe σ vs) (upd H5 Da (.dK (putK kvs k z))) ∧ TKs K mg as2 G2 ac us ∧ (upd H5 Da (.dK (putK kvs k z))) Da = some (.dK us) ∧ Da ∉ as2 ∧ G2 Da = none ∧ ¬ InOw ev2 (wipe σ vs) Da ∧ Iv (i + 1) ac ev2)
            else ((i + 1) + m = items.length ∧ ∃ as2 G2 ev2 ac us, Ext as1 G1 as2 G2 ∧ Rel K mg D as2 G2 ev2 (wipe σ vs) H3 ∧ TKs K mg as2 G2 ac us ∧ H3 Da = some (.dK us) ∧ Da ∉ as2 ∧ G2 Da = none ∧ ¬ InOw ev2 (wipe σ vs) Da ∧ Iv (i + 1) ac ev2) := by
        intro G3 x H3 R3 x3 tv hDa3 gD3
        have R3p := R3.prot hDa3 nD naD gD3 nwD
        obtain ⟨o1, o2⟩ := R2.out naD gD
        refine hg _ as2 G3 ev2 (wipe σ vs) H3 _ x _ X0 _ R3p tv (hs i _ acc ev2 e iv) fun ev4 as4 G4 σ4 H4 p4 R4 x4 w4 => ⟨by rw [w4, wipe_wipe], ?_⟩
        refine ht _ as4 G4 ev4 σ4 H4 _ _ X0 R4 p4 (fun b ev5 as5 G5 H5 p5 R5 x5 => ?_) px0
        cases b with
        | false =>
          rw [if_neg (by simp)] at p5 ⊢
          obtain ⟨R6, h6, n6, g6, nw6⟩ := R5.unprot nD o1 o2
          have R7 := R6.wipe (vs := vs)
          rw [w4, wipe_wipe] at R7
          have nw7 := notOw_wipe (vs := vs) nw6
          rw [w4, wipe_wipe] at nw7
          exact ⟨by omega, as5, G5, _, acc, us, (((x2.trans x3).trans x4).trans x5), R7, tvs.mono ((x3.trans x4).trans x5), h6, n6, g6, nw7, p5⟩
        | true =>
          rw [if_pos rfl] at p5 ⊢
          refine hk _ as5 G5 ev5 σ4 H5 _ _ X0 R5 p5 (fun kt ev6 as6 G6 y H6 p6 R6 x6 tv6 => ?_) px0
          refine he _ as6 G6 ev6 σ4 H6 _ _ X0 R6 p6 (fun r ev7 as7 G7 z H7 ⟨k, ek, p71, p72⟩ R7 x7 tvz => ?_) px0
          obtain ⟨R8, h8, n8, g8, nw8⟩ := R7.unprot nD o1 o2
          have xx := (((x3.trans x4).trans x5).trans x6).trans x7
          have tv8 := tvs.mono xx
          refine ⟨us, k, (tv6.key ek), h8, by rw [← tvs.length]; exact p71, by omega, as7, G7, _, putT acc k r, putK us k z, x2.trans xx, ?_, tv8.put k tvz, upd_same, n8, g8, ?_, p72⟩
          · have R9 := (R8.chg (u := .dK (putK us k z)) (t := .dct acc) ⟨⟨_, h8, .dct tv8.1 tv8.2⟩, g8, n8, nD⟩ nw8).wipe (vs := vs)
            rw [w4, wipe_wipe] at R9
            exact R9
          · have nw9 := notOw_wipe (vs := vs) nw8
            rw [w4, wipe_wipe] at nw9
            exact nw9
      refine .inr ⟨go, _, fun H'' z => ⟨m, Nat.lt_succ_self m, z⟩, fun x H3 y => ?_⟩
      rcases yl x H3 y with ⟨rfl, tv⟩ | ⟨p, o, hp, rfl, tv⟩
      · exact turn R2 Ext.refl tv hDa gD
      · have np : Da ≠ p := fun z => by rw [z, hp] at hDa; cases hDa
        exact turn (R2.fz hp) (Ext.new (R2.s.sub.free hp)) tv (by rw [upd_ne np]; exact hDa) (by rw [upd_ne np]; exact gD)) hX
end
end Fu
set_option Elab.async false
set_option linter.all false
set_option maxRecDepth 100000
set_option maxHeartbeats 4000000
namespace Fu
open PySem PySem.Spec PyProof.Rows L2 Hv
/-! # what is walked; operators, subscripts, slices, built-in functions -/
section
variable {K : PySem.W.Frag} {mg : Str → Option Value} {E : L2.St → XK}
/-! ## what a for walks -/
theorem wk_list {D : En} {as : List Addr} {G : Hp} {a : Addr} {vs : List V} {ts : List T} (h : G a = some (.lst vs)) (tv : TVs K mg as G ts vs) : Wk K mg D (Itl K a) ts as G where
  go := fun as2 G2 H2 i t x ⟨s, _⟩ e => by
    have sq : SqL K H2 a vs := SqL.of (s _ _ (x.g _ _ h))
    obtain ⟨v, hv, tv1⟩ := tv.get e
    exact ⟨⟨vs, v, sq, hv⟩, fun y H3 yl => .inl ⟨yl.1, by
      have := yl.2 vs sq
      rw [hv] at this
      cases this
      exact tv1.mono x⟩⟩
  stop := fun as2 G2 H2 x ⟨s, _⟩ => ⟨vs, SqL.of (s _ _ (x.g _ _ h)), by rw [tv.length]; exact Nat.le_refl _⟩
theorem wk_tup {D : En} {as : List Addr} {G : Hp} {a : Addr} {vs : List V} {ts : List T} (h : SqT K G a vs) (tv : TVs K mg as G ts vs) : Wk K mg D (Itt K a) ts as G where
  go := fun as2 G2 H2 i t x ⟨s, _⟩ e => by
    have sq : SqT K H2 a vs := SqT.le s (SqT.le x.g h)
    obtain ⟨v, hv, tv1⟩ := tv.get e
    exact ⟨⟨vs, v, sq, hv⟩, fun y H3 yl => .inl ⟨yl.1, by
      have := yl.2 vs sq
      rw [hv] at this
      cases this
      exact tv1.mono x⟩⟩
  stop := fun as2 G2 H2 x ⟨s, _⟩ => ⟨vs, SqT.le s (SqT.le x.g h), by rw [tv.length]; exact Nat.le_refl _⟩
def diL (f : DE) : DI := fun P X ev => f (fun t ev1 => match t with
  | .lst ts => P ts ev1
  | _ => False) X ev
def diT (f : DE) : DI := fun P X ev => f (fun t ev1 => match t with
  | .tup ts => P ts ev1
  | _ => False) X ev
theorem snd_iList {t : TE} {f : DE} (h : Snd K mg E t f) : SndI K mg E (iList K t) (diL f) := fun D as G ev σ H Z P X R hf hP hX =>
  h D as G ev σ H _ _ X R hf (fun r ev1 as1 G1 v H1 p R1 x1 tv => by
    cases tv with
    | lst e b => exact ⟨_, rfl, ⟨_, SqL.of (R1.s.sub _ _ e)⟩, hP _ ev1 as1 G1 _ H1 p R1 x1 (wk_list e b)⟩
    | _ => exact (show False from p).elim) hX
theorem snd_iTup {t : TE} {f : DE} (h : Snd K mg E t f) : SndI K mg E (iTup K t) (diT f) := fun D as G ev σ H Z P X R hf hP hX =>
  h D as G ev σ H _ _ X R hf (fun r ev1 as1 G1 v H1 p R1 x1 tv => by
    cases tv with
    | tup e b => exact ⟨_, rfl, ⟨_, SqT.le R1.s.sub e⟩, hP _ ev1 as1 G1 _ H1 p R1 x1 (wk_tup e b)⟩
    | _ => exact (show False from p).elim) hX
/-- the signs of a text -/
def signsT (z : Str) : List T := (cs z).map fun c => .str ⟨#[c]⟩
theorem signs_get {z : Str} {i : Nat} {t : T} (e : (signsT z)[i]? = some t) : ∃ c, (cs z)[i]? = some c ∧ t = .str ⟨#[c]⟩ := by
  unfold signsT at e
  rw [List.getElem?_map] at e
  obtain ⟨c, h, rfl⟩ := Option.map_eq_some_iff.mp e
  exact ⟨c, h, rfl⟩
def diS (f : DE) : DI := fun P X ev => f (fun t ev1 => match t with
  | .str z => P (signsT z) ev1
  | _ => False) X ev
theorem snd_iStr {t : TE} {f : DE} (h : Snd K mg E t f) : SndI K mg E (iStr t) (diS f) := fun D as G ev σ H Z P X R hf hP hX =>
  h D as G ev σ H _ _ X R hf (fun r ev1 as1 G1 v H1 p R1 x1 tv => by
    cases tv with
    | str z =>
      refine ⟨z, rfl, hP _ ev1 as1 G1 _ H1 p R1 x1 ⟨fun as2 G2 H2 i t x ⟨s, _⟩ e => ?_, fun as2 G2 H2 x ⟨s, _⟩ => ?_⟩⟩
      · obtain ⟨c, hc, rfl⟩ := signs_get e
        have hi : i < z.cps.size := by have := (List.getElem?_eq_some_iff.mp hc).1; simpa [cs] using this
        refine ⟨hi, fun y H3 yl => .inl ⟨yl.1, ?_⟩⟩
        obtain ⟨c', h1, rfl⟩ := yl.2
        have : c' = c := by
          have h2 : (cs z)[i]? = some c' := by simpa [cs] using h1
          rw [hc] at h2
          exact (Option.some.inj h2).symm
        subst this
        exact .str _
      · show z.cps.size ≤ (signsT z).length
        simp [signsT, cs]
    | _ => exact (show False from p).elim) hX
/-- lo, lo + 1, .. -/
def rangeT (lo : Int) (n : Nat) : List T := (List.range n).map fun i => .int (lo + (i : Nat))
theorem wk_range {D : En} {as : List Addr} {G : Hp} {lo : Int} {n : Nat} : Wk K mg D (Itr lo n) (rangeT lo n) as G where
  go := fun as2 G2 H2 i t x ⟨s, _⟩ e => by
    have hi : i < n := by have := (List.getElem?_eq_some_iff.mp e).1; simpa [rangeT] using this
    have et : t = .int (lo + (i : Nat)) := by
      have := (List.getElem?_eq_some_iff.mp e).2
      rw [← this]
      simp [rangeT]
    subst et
    exact ⟨hi, fun y H3 yl => .inl ⟨yl.1, by rw [yl.2]; exact .int _⟩⟩
  stop := fun as2 G2 H2 x ⟨s, _⟩ => by show n ≤ (rangeT lo n).length; simp [rangeT]
def diR1 (f : DA) : DI := fun P X ev => f (fun ts ev1 => match ts with
  | [.int j] => (-(2 ^ 62) ≤ j ∧ j < 2 ^ 62) ∧ P (rangeT 0 j.toNat) ev1
  | _ => False) X ev
def diR2 (f : DA) : DI := fun P X ev => f (fun ts ev1 => match ts with
  | [.int i, .int j] => (-(2 ^ 62) ≤ i ∧ i < 2 ^ 62 ∧ -(2 ^ 62) ≤ j ∧ j < 2 ^ 62) ∧ P (rangeT i (j - i).toNat) ev1
  | _ => False) X ev
theorem snd_iR1 {t : TA} {f : DA} (h : SndA K mg E t f) : SndI K mg E (iRng1 t) (diR1 f) := fun D as G ev σ H Z P X R hf hP hX =>
  h D as G ev σ H _ _ X R hf (fun ts ev1 as1 G1 vs H1 p R1 x1 tv => by
    match ts, vs, tv, p with
    | [.int j], [_], .cons (.int _) .nil, p => exact ⟨j, rfl, p.1.1, p.1.2, hP _ ev1 as1 G1 _ H1 p.2 R1 x1 wk_range⟩) hX
theorem snd_iR2 {t : TA} {f : DA} (h : SndA K mg E t f) : SndI K mg E (iRng2 t) (diR2 f) := fun D as G ev σ H Z P X R hf hP hX =>
  h D as G ev σ H _ _ X R hf (fun ts ev1 as1 G1 vs H1 p R1 x1 tv => by
    match ts, vs, tv, p with
    | [.int i, .int j], [_, _], .cons (.int _) (.cons (.int _) .nil), p => exact ⟨i, j, rfl, p.1, hP _ ev1 as1 G1 _ H1 p.2 R1 x1 wk_range⟩) hX
/-- (0, x), (1, y), .. -/
def enumT (ts : List T) : List T := ts.zipIdx.map fun p => .tup [.int (p.2 : Nat), p.1]
theorem enumT_get {ts : List T} {i : Nat} {t : T} (e : (enumT ts)[i]? = some t) : ∃ u, ts[i]? = some u ∧ t = .tup [.int (i : Nat), u] := by
  unfold enumT at e
  rw [List.getElem?_map, List.getElem?_zipIdx] at e
  cases q : ts[i]? with
  | none => rw [q] at e; cases e
  | some u =>
    rw [q] at e
    refine ⟨u, rfl, ?_⟩
    simp at e
    exact e.symm
theorem enumT_len (ts : List T) : (enumT ts).length = ts.length := by simp [enumT]
def diE (f : DA) : DI := fun P X ev => f (fun ts ev1 => match ts with
  | [.lst us] => P (enumT us) ev1
  | _ => False) X ev
theorem new_tup {as : List Addr} {G : Hp} {p : Addr} {vs : List V} {ts : List T} (hp : G p = none) (h : TVs K mg as G ts vs) : TV K mg as (upd G p (.tup vs)) (.tup ts) (.ref p) := .tup (SqT.of upd_same) (h.mono (Ext.new hp))
theorem snd_iEnum {t : TA} {f : DA} (h : SndA K mg E t f) : SndI K mg E (iEnum K t) (diE f) := fun D as G ev σ H Z P X R hf hP hX =>
  h D as G ev σ H _ _ X R hf (fun ts ev1 as1 G1 vs H1 p R1 x1 tv => by
    match ts, vs, tv, p with
    | [.lst us], [_], .cons (.lst (a := a) (vs := ws) e b) .nil, p =>
      refine ⟨a, ws, rfl, SqL.of (R1.s.sub _ _ e), hP _ ev1 as1 G1 _ H1 p R1 x1 ⟨fun as2 G2 H2 i t x ⟨s, _⟩ et => ?_, fun as2 G2 H2 x ⟨s, _⟩ => ?_⟩⟩
      · have sq : SqL K H2 a ws := SqL.of (s _ _ (x.g _ _ e))
        obtain ⟨u, hu, rfl⟩ := enumT_get et
        obtain ⟨v, hv, tv1⟩ := b.get hu
        refine ⟨⟨ws, v, sq, hv⟩, fun y H3 yl => ?_⟩
        obtain ⟨Tp, x0, rfl, hT, rfl, q⟩ := yl
        have := q ws sq
        rw [hv] at this
        cases this
        exact .inr ⟨Tp, _, hT, rfl, new_tup (s.free hT) (.cons (.int _) (.cons (tv1.mono x) .nil))⟩
      · exact ⟨ws, SqL.of (s _ _ (x.g _ _ e)), by rw [enumT_len, b.length]; exact Nat.le_refl _⟩) hX
def zipT : List T → List T → List T := List.zipWith fun a b => .tup [a, b]
theorem zipT_get {ts us : List T} {i : Nat} {t : T} (e : (zipT ts us)[i]? = some t) : ∃ a b, ts[i]? = some a ∧ us[i]? = some b ∧ t = .tup [a, b] := by
  unfold zipT at e
  rw [List.getElem?_zipWith] at e
  cases q : ts[i]? with
  | none => rw [q] at e; cases e
  | some a =>
    cases q2 : us[i]? with
    | none => rw [q, q2] at e; cases e
    | some b => rw [q, q2] at e; cases e; exact ⟨a, b, rfl, rfl, rfl⟩
theorem zipT_len (ts us : List T) : (zipT ts us).length = min ts.length us.length := by simp [zipT]
def diZ (f : DA) : DI := fun P X ev => f (fun ts ev1 => match ts with
  | [.lst us, .lst ws] => P (zipT us ws) ev1
  | [.tup us, .tup ws] => P (zipT us ws) ev1
  | _ => False) X ev
theorem snd_iZip {t : TA} {f : DA} (h : SndA K mg E t f) : SndI K mg E (RZ.iZipA K t) (diZ f) := fun D as G ev σ H Z P X R hf hP hX =>
  h D as G ev σ H _ _ X R hf (fun ts ev1 as1 G1 vs H1 p R1 x1 tv => by
    match ts, vs, tv, p with
    | [.lst us, .lst ws], [_, _], .cons (.lst (a := a) (vs := xs) e b) (.cons (.lst (a := a2) (vs := ys) e2 b2) .nil), p =>
      refine ⟨a, a2, xs, ys, rfl, .inl ⟨SqL.of (R1.s.sub _ _ e), SqL.of (R1.s.sub _ _ e2), hP _ ev1 as1 G1 _ H1 p R1 x1 ⟨fun as2 G2 H2 i t x ⟨s, _⟩ et => ?_, fun as2 G2 H2 x ⟨s, _⟩ => ?_⟩⟩⟩
      · have sq : SqL K H2 a xs := SqL.of (s _ _ (x.g _ _ e))
        have sq2 : SqL K H2 a2 ys := SqL.of (s _ _ (x.g _ _ e2))
        obtain ⟨u, w, hu, hw, rfl⟩ := zipT_get et
        obtain ⟨v, hv, tv1⟩ := b.get hu
        obtain ⟨v2, hv2, tv2⟩ := b2.get hw
        refine ⟨⟨xs, ys, v, v2, sq, sq2, hv, hv2⟩, fun y H3 yl => ?_⟩
        obtain ⟨Tp, x0, y0, rfl, hT, rfl, q, q2⟩ := yl
        have z1 := q xs sq
        have z2 := q2 ys sq2
        rw [hv] at z1
        rw [hv2] at z2
        cases z1
        cases z2
        exact .inr ⟨Tp, _, hT, rfl, new_tup (s.free hT) (.cons (tv1.mono x) (.cons (tv2.mono x) .nil))⟩
      · refine ⟨xs, ys, SqL.of (s _ _ (x.g _ _ e)), SqL.of (s _ _ (x.g _ _ e2)), ?_⟩
        rw [zipT_len, b.length, b2.length]
        omega
    | [.tup us, .tup ws], [_, _], .cons (.tup (a := a) (vs := xs) e b) (.cons (.tup (a := a2) (vs := ys) e2 b2) .nil), p =>
      refine ⟨a, a2, xs, ys, rfl, .inr ⟨SqT.le R1.s.sub e, SqT.le R1.s.sub e2, hP _ ev1 as1 G1 _ H1 p R1 x1 ⟨fun as2 G2 H2 i t x ⟨s, _⟩ et => ?_, fun as2 G2 H2 x ⟨s, _⟩ => ?_⟩⟩⟩
      · have sq : SqT K H2 a xs := SqT.le s (SqT.le x.g e)
        have sq2 : SqT K H2 a2 ys := SqT.le s (SqT.le x.g e2)
        obtain ⟨u, w, hu, hw, rfl⟩ := zipT_get et
        obtain ⟨v, hv, tv1⟩ := b.get hu
        obtain ⟨v2, hv2, tv2⟩ := b2.get hw
        refine ⟨⟨xs, ys, v, v2, sq, sq2, hv, hv2⟩, fun y H3 yl => ?_⟩
        obtain ⟨Tp, x0, y0, rfl, hT, rfl, q, q2⟩ := yl
        have z1 := q xs sq
        have z2 := q2 ys sq2
        rw [hv] at z1
        rw [hv2] at z2
        cases z1
        cases z2
        exact .inr ⟨Tp, _, hT, rfl, new_tup (s.free hT) (.cons (tv1.mono x) (.cons (tv2.mono x) .nil))⟩
      · refine ⟨xs, ys, SqT.le s (SqT.le x.g e), SqT.le s (SqT.le x.g e2), ?_⟩
        rw [zipT_len, b.length, b2.length]
        omega) hX
/-! dicts that stay -/
def kT : Key → T
  | .inl i => .int i
  | .inr x => .str x
theorem kT_tv {as : List Addr} {G : Hp} (k : Key) : TV K mg as G (kT k) (kV k) := by
  cases k with
  | inl i => exact .int i
  | inr x => exact .str x
theorem ks_get {as : List Addr} {G : Hp} {kts : List (Key × T)} {kvs : List (Key × V)} (h : TKs K mg as G kts kvs) {i : Nat} {k : Key} {t : T} (e : kts[i]? = some (k, t)) : ∃ v, kvs[i]? = some (k, v) ∧ TV K mg as G t v := by
  obtain ⟨v, hv, tv⟩ := h.2.get (show (kts.map (·.2))[i]? = some t by rw [List.getElem?_map, e]; rfl)
  rw [List.getElem?_map] at hv
  have hk : (kvs.map (·.1))[i]? = some k := by rw [← h.1, List.getElem?_map, e]; rfl
  rw [List.getElem?_map] at hk
  cases q : kvs[i]? with
  | none => rw [q] at hv; cases hv
  | some p =>
    rw [q] at hv hk
    cases hv
    cases hk
    exact ⟨_, rfl, tv⟩
def diK (f : DE) : DI := fun P X ev => f (fun t ev1 => match t with
  | .dct kts => P (kts.map fun p => kT p.1) ev1
  | _ => False) X ev
def diI (f : DE) : DI := fun P X ev => f (fun t ev1 => match t with
  | .dct kts => P (kts.map fun p => .tup [kT p.1, p.2]) ev1
  | _ => False) X ev
def diV (f : DE) : DI := fun P X ev => f (fun t ev1 => match t with
  | .dct kts => P (kts.map fun p => p.2) ev1
  | _ => False) X ev
theorem snd_iKeys {t : TE} {f : DE} (h : Snd K mg E t f) : SndI K mg E (iKeys t) (diK f) := fun D as G ev σ H Z P X R hf hP hX =>
  h D as G ev σ H _ _ X R hf (fun r ev1 as1 G1 v H1 p R1 x1 tv => by
    cases tv with
    | dct e n b =>
      rename_i a o kvs kts
      refine ⟨a, o, rfl, .inl ⟨kvs, R1.s.sub _ _ e, hP _ ev1 as1 G1 _ H1 p R1 x1 ⟨fun as2 G2 H2 i t x ⟨s, _⟩ et => ?_, fun as2 G2 H2 x ⟨s, _⟩ => ?_⟩⟩⟩
      · rw [List.getElem?_map] at et
        obtain ⟨⟨k, u⟩, hk, rfl⟩ := Option.map_eq_some_iff.mp et
        obtain ⟨v, hv, _⟩ := ks_get ⟨n, b⟩ hk
        refine ⟨⟨s _ _ (x.g _ _ e), (List.getElem?_eq_some_iff.mp hv).1⟩, fun y H3 yl => .inl ⟨yl.1, ?_⟩⟩
        obtain ⟨k', v', h1, rfl⟩ := yl.2
        rw [hv] at h1
        cases h1
        exact kT_tv k
      · refine ⟨s _ _ (x.g _ _ e), ?_⟩
        have := (show TKs K mg as1 G1 kts kvs from ⟨n, b⟩).length
        rw [List.length_map]
        omega
    | _ => exact (show False from p).elim) hX
theorem snd_iItems {t : TE} {f : DE} (h : Snd K mg E t f) : SndI K mg E (iItems t) (diI f) := fun D as G ev σ H Z P X R hf hP hX =>
  h D as G ev σ H _ _ X R hf (fun r ev1 as1 G1 v H1 p R1 x1 tv => by
    cases tv with
    | dct e n b =>
      rename_i a o kvs kts
      refine ⟨a, o, kvs, rfl, R1.s.sub _ _ e, hP _ ev1 as1 G1 _ H1 p R1 x1 ⟨fun as2 G2 H2 i t x ⟨s, _⟩ et => ?_, fun as2 G2 H2 x ⟨s, _⟩ => ?_⟩⟩
      · rw [List.getElem?_map] at et
        obtain ⟨⟨k, u⟩, hk, rfl⟩ := Option.map_eq_some_iff.mp et
        obtain ⟨v, hv, tv1⟩ := ks_get ⟨n, b⟩ hk
        refine ⟨⟨s _ _ (x.g _ _ e), (List.getElem?_eq_some_iff.mp hv).1⟩, fun y H3 yl => ?_⟩
        obtain ⟨Tp, k', v', h1, rfl, hT, rfl⟩ := yl
        rw [hv] at h1
        cases h1
        exact .inr ⟨Tp, _, hT, rfl, new_tup (s.free hT) (.cons (kT_tv k) (.cons (tv1.mono x) .nil))⟩
      · refine ⟨s _ _ (x.g _ _ e), ?_⟩
        have := (show TKs K mg as1 G1 kts kvs from ⟨n, b⟩).length
        rw [List.length_map]
        omega
    | _ => exact (show False from p).elim) hX
theorem snd_iVals {t : TE} {f : DE} (h : Snd K mg E t f) : SndI K mg E (iVals t) (diV f) := fun D as G ev σ H Z P X R hf hP hX =>
  h D as G ev σ H _ _ X R hf (fun r ev1 as1 G1 v H1 p R1 x1 tv => by
    cases tv with
    | dct e n b =>
      rename_i a o kvs kts
      refine ⟨a, o, kvs, rfl, R1.s.sub _ _ e, hP _ ev1 as1 G1 _ H1 p R1 x1 ⟨fun as2 G2 H2 i t x ⟨s, _⟩ et => ?_, fun as2 G2 H2 x ⟨s, _⟩ => ?_⟩⟩
      · rw [List.getElem?_map] at et
        obtain ⟨⟨k, u⟩, hk, rfl⟩ := Option.map_eq_some_iff.mp et
        obtain ⟨v, hv, tv1⟩ := ks_get ⟨n, b⟩ hk
        refine ⟨⟨s _ _ (x.g _ _ e), (List.getElem?_eq_some_iff.mp hv).1⟩, fun y H3 yl => .inl ⟨yl.1, ?_⟩⟩
        obtain ⟨k', h1⟩ := yl.2
        rw [hv] at h1
        cases h1
        exact tv1.mono x
      · refine ⟨s _ _ (x.g _ _ e), ?_⟩
        have := (show TKs K mg as1 G1 kts kvs from ⟨n, b⟩).length
        rw [List.length_map]
        omega
    | _ => exact (show False from p).elim) hX
/-- zip(a dict, a tuple) -/
def diZK (f : DA) : DI := fun P X ev => f (fun ts ev1 => match ts with
  | [.dct kts, .tup us] => us.length = kts.length ∧ P (zipT (kts.map fun p => kT p.1) us) ev1
  | _ => False) X ev
theorem snd_iZipK {t : TA} {f : DA} (h : SndA K mg E t f) : SndI K mg E (iZipK K t) (diZK f) := fun D as G ev σ H Z P X R hf hP hX =>
  h D as G ev σ H _ _ X R hf (fun ts ev1 as1 G1 vs H1 p R1 x1 tv => by
    match ts, vs, tv, p with
    | [.dct kts, .tup us], [_, _], .cons (.dct (a := a) (o := o) (kvs := kvs) e n b) (.cons (.tup (a := a2) (vs := ys) e2 b2) .nil), p =>
      have hl : ys.length = kvs.length := by
        have := (show TKs K mg as1 G1 kts kvs from ⟨n, b⟩).length
        rw [← b2.length, p.1, this]
      refine ⟨a, o, kvs, a2, ys, rfl, R1.s.sub _ _ e, SqT.le R1.s.sub e2, hl, hP _ ev1 as1 G1 _ H1 p.2 R1 x1 ⟨fun as2 G2 H2 i t x ⟨s, _⟩ et => ?_, fun as2 G2 H2 x ⟨s, _⟩ => ?_⟩⟩
      · have sq2 : SqT K H2 a2 ys := SqT.le s (SqT.le x.g e2)
        obtain ⟨u, w, hu, hw, rfl⟩ := zipT_get et
        rw [List.getElem?_map] at hu
        obtain ⟨⟨k, u0⟩, hk, rfl⟩ := Option.map_eq_some_iff.mp hu
        obtain ⟨v, hv, tv1⟩ := ks_get ⟨n, b⟩ hk
        obtain ⟨v2, hv2, tv2⟩ := b2.get hw
        refine ⟨⟨s _ _ (x.g _ _ e), (List.getElem?_eq_some_iff.mp hv).1, ys, sq2, hl⟩, fun y H3 yl => ?_⟩
        obtain ⟨Tp, k', x0, y0, rfl, h1, hT, rfl, q⟩ := yl
        rw [hv] at h1
        cases h1
        have z2 := q ys sq2
        rw [hv2] at z2
        cases z2
        exact .inr ⟨Tp, _, hT, rfl, new_tup (s.free hT) (.cons (kT_tv k) (.cons (tv2.mono x) .nil))⟩
      · refine ⟨s _ _ (x.g _ _ e), ?_, ys, SqT.le s (SqT.le x.g e2), hl⟩
        have := (show TKs K mg as1 G1 kts kvs from ⟨n, b⟩).length
        rw [zipT_len, List.length_map]
        omega) hX
/-- zip(d.values(), a tuple) -/
def diZV (f : DE) (g : DE) : DI := fun P X ev => f (fun t ev1 => match t with
  | .dct kts => g (fun u ev2 => match u with
    | .tup us => us.length = kts.length ∧ P (zipT (kts.map fun p => p.2) us) ev2
    | _ => False) X ev1
  | _ => False) X ev
theorem px_prot {D : En} {as : List Addr} {G : Hp} {σ : L2.St} {X : DX} {a : Addr} {o : HO} (h : PX K mg E D as G σ X) (n : D.H a = none) (na : a ∉ D.as) (g : D.G a = none) : PX K mg E (prot D a o) as G σ X :=
  fun x ev as' G' c oa H' p R y z => h x ev as' G' c oa H' p (R.unprot n na g).1 y z
theorem snd_iZipV {t u : TE} {f g : DE} (h : Snd K mg E t f) (k : Snd K mg E u g) : SndI K mg E (iZipV K (tCons (tVals t) (tCons u tNil))) (diZV f g) := fun D as G ev σ H Z P X R hf hP hX =>
  h D as G ev σ H _ _ X R hf (fun r ev1 as1 G1 v H1 p R1 x1 tv => by
    cases tv with
    | dct e n b =>
      rename_i a o kvs kts
      refine ⟨a, kvs, rfl, .inr ⟨o, R1.s.sub _ _ e⟩, fun w hw => ?_⟩
      have n0 : D.H w = none := R1.c.keep w hw
      have na : w ∉ as1 := fun z => (R1.s.mem z).1 hw
      have gw : G1 w = none := R1.s.sub.free hw
      obtain ⟨o1, o2⟩ := R1.out na gw
      have R2 := (R1.new (o := viewO "dict_values" w a) hw).prot upd_same n0 na gw (R1.notOw hw)
      refine k _ as1 G1 ev1 σ _ _ _ X R2 p (fun r2 ev2 as2 G2 v2 H2 p2 R3 x2 tv2 => ?_) (px_prot (hX.ext x1) n0 o1 o2)
      obtain ⟨R4, hw2, _, _, _⟩ := R3.unprot n0 o1 o2
      cases tv2 with
      | tup e2 b2 =>
        rename_i a2 ys us
        have hl : ys.length = kvs.length := by
          have := (show TKs K mg as1 G1 kts kvs from ⟨n, b⟩).length
          rw [← b2.length, p2.1, this]
        refine ⟨w, a, o, kvs, a2, ys, rfl, hw2, R4.s.sub _ _ (x2.g _ _ e), SqT.le R4.s.sub e2, hl, hP _ ev2 as2 G2 _ H2 p2.2 R4 (x1.trans x2) ⟨fun as3 G3 H3 i t x ⟨s, _⟩ et => ?_, fun as3 G3 H3 x ⟨s, _⟩ => ?_⟩⟩
        · have sq2 : SqT K H3 a2 ys := SqT.le s (SqT.le x.g e2)
          obtain ⟨u, w, hu, hw, rfl⟩ := zipT_get et
          rw [List.getElem?_map] at hu
          obtain ⟨⟨k, u0⟩, hk, rfl⟩ := Option.map_eq_some_iff.mp hu
          obtain ⟨v, hv, tv1⟩ := ks_get ⟨n, b⟩ hk
          obtain ⟨v2, hv2, tv2⟩ := b2.get hw
          refine ⟨⟨s _ _ (x.g _ _ (x2.g _ _ e)), (List.getElem?_eq_some_iff.mp hv).1, ys, sq2, hl⟩, fun y H4 yl => ?_⟩
          obtain ⟨Tp, k', x0, y0, rfl, h1, hT, rfl, q⟩ := yl
          rw [hv] at h1
          cases h1
          have z2 := q ys sq2
          rw [hv2] at z2
          cases z2
          exact .inr ⟨Tp, _, hT, rfl, new_tup (s.free hT) (.cons (tv1.mono (x2.trans x)) (.cons (tv2.mono x) .nil))⟩
        · refine ⟨s _ _ (x.g _ _ (x2.g _ _ e)), ?_, ys, SqT.le s (SqT.le x.g e2), hl⟩
          have := (show TKs K mg as1 G1 kts kvs from ⟨n, b⟩).length
          rw [zipT_len, List.length_map]
          omega
      | _ => exact (show False from p2).elim
    | _ => exact (show False from p).elim) hX
end
end Fu
set_option Elab.async false
set_option linter.all false
set_option maxRecDepth 100000
set_option maxHeartbeats 4000000
namespace Fu
open PySem PySem.Spec PyProof.Rows L2 Hv
/-! # operators, comparisons, subscripts, slices, built-in functions, by what is seen -/
section
variable {K : PySem.W.Frag} {mg : Str → Option Value} {E : L2.St → XK}
/-! ## ints -/
def gI0 (g : Int → Int → T) : G2 := fun x y P => match x, y with
  | .int i, .int j => P (g i j)
  | _, _ => False
def gIC (C : Int → Int → Prop) (g : Int → Int → T) : G2 := fun x y P => match x, y with
  | .int i, .int j => C i j ∧ P (g i j)
  | _, _ => False
theorem op_i0 {g : Int → Int → V} {g' : Int → Int → T} (hg : ∀ as G i j, TV K mg as G (g' i j) (g i j)) : OpS K mg (rI0 g) (gI0 g') := fun D as G ev σ H tx ty x y P Q R hx hy h q => by
  match tx, ty, h with
  | .int i, .int j, h =>
    cases (show x = .int i from hx)
    cases (show y = .int j from hy)
    exact ⟨i, j, rfl, rfl, q _ _ G H h R Ext.refl (hg _ _ _ _)⟩
theorem op_iC {C : Int → Int → Prop} {g : Int → Int → V} {g' : Int → Int → T} (hg : ∀ as G i j, TV K mg as G (g' i j) (g i j)) : OpS K mg (rI C g) (gIC C g') := fun D as G ev σ H tx ty x y P Q R hx hy h q => by
  match tx, ty, h with
  | .int i, .int j, h =>
    cases (show x = .int i from hx)
    cases (show y = .int j from hy)
    exact ⟨i, j, rfl, rfl, h.1, q _ _ G H h.2 R Ext.refl (hg _ _ _ _)⟩
abbrev gSub' : G2 := gI0 fun i j => .int (i - j)
abbrev gFdiv : G2 := gIC CDiv fun i j => .int (i / j)
abbrev gMod : G2 := gIC (fun _ j => 0 < j) fun i j => .int (i % j)
abbrev gPow : G2 := gIC CPow fun i j => .int (i ^ j.toNat)
abbrev gLt : G2 := gI0 fun i j => .bl (decide (i < j))
abbrev gLe : G2 := gI0 fun i j => .bl (decide (i ≤ j))
abbrev gGt : G2 := gI0 fun i j => .bl (decide (j < i))
abbrev gGe : G2 := gI0 fun i j => .bl (decide (j ≤ i))
theorem os_sub : OpS K mg (rI0 fun i j => .int (i - j)) gSub' := op_i0 fun _ _ _ _ => .int _
theorem os_fdiv : OpS K mg (rI CDiv fun i j => .int (i / j)) gFdiv := op_iC fun _ _ _ _ => .int _
theorem os_mod : OpS K mg (rI (fun _ j => 0 < j) fun i j => .int (i % j)) gMod := op_iC fun _ _ _ _ => .int _
theorem os_pow : OpS K mg (rI CPow fun i j => .int (i ^ j.toNat)) gPow := op_iC fun _ _ _ _ => .int _
theorem os_lt : OpS K mg (rI0 fun i j => .bl (decide (i < j))) gLt := op_i0 fun _ _ _ _ => .bl _
theorem os_le : OpS K mg (rI0 fun i j => .bl (decide (i ≤ j))) gLe := op_i0 fun _ _ _ _ => .bl _
theorem os_gt : OpS K mg (rI0 fun i j => .bl (decide (j < i))) gGt := op_i0 fun _ _ _ _ => .bl _
theorem os_ge : OpS K mg (rI0 fun i j => .bl (decide (j ≤ i))) gGe := op_i0 fun _ _ _ _ => .bl _
/-! ## +, * -/
def gAdd : G2 := fun x y P => match x, y with
  | .int i, .int j => P (.int (i + j))
  | .str a, .str b => a.length + b.length ≤ sizeLine ∧ P (.str (a ++ b))
  | .lst a, .lst b => a.length + b.length ≤ sizeLine ∧ P (.lst (a ++ b))
  | .tup a, .tup b => a.length + b.length ≤ sizeLine ∧ P (.tup (a ++ b))
  | _, _ => False
theorem os_add : OpS K mg (addR K) gAdd := fun D as G ev σ H tx ty x y P Q R hx hy h q => by
  match tx, ty, h with
  | .int i, .int j, h =>
    cases (show x = .int i from hx)
    cases (show y = .int j from hy)
    exact .inl ⟨i, j, rfl, rfl, q _ _ G H h R Ext.refl (.int _)⟩
  | .str a, .str b, h =>
    cases (show x = .str a from hx)
    cases (show y = .str b from hy)
    exact .inr (.inl ⟨a, b, rfl, rfl, h.1, q _ _ G H h.2 R Ext.refl (.str _)⟩)
  | .lst a, .lst b, h =>
    obtain ⟨p, vs, rfl, e1, t1⟩ := hx
    obtain ⟨p2, vs2, rfl, e2, t2⟩ := hy
    refine .inr (.inr (.inl ⟨p, p2, vs, vs2, rfl, rfl, e1, e2, by rw [← t1.length, ← t2.length]; exact h.1, fun r hr => ?_⟩))
    exact q _ _ _ _ h.2 (R.fz hr) (Ext.new (R.s.sub.free hr)) (.lst upd_same ((t1.app t2).mono (Ext.new (R.s.sub.free hr))))
  | .tup a, .tup b, h =>
    obtain ⟨p, vs, rfl, e1, t1⟩ := hx
    obtain ⟨p2, vs2, rfl, e2, t2⟩ := hy
    refine .inr (.inr (.inr ⟨p, p2, vs, vs2, rfl, rfl, SqT.le R.s.sub e1, SqT.le R.s.sub e2, by rw [← t1.length, ← t2.length]; exact h.1, fun z => ?_, fun z1 z => ?_, fun _ _ r hr => ?_⟩))
    · subst z
      cases t1
      exact q _ _ G H h.2 R Ext.refl (.tup e2 t2)
    · subst z
      cases t2
      have h2 : P (.tup (a ++ [])) := h.2
      rw [List.append_nil] at h2
      exact q _ _ G H h2 R Ext.refl (.tup e1 t1)
    · exact q _ _ _ _ h.2 (R.fz hr) (Ext.new (R.s.sub.free hr)) (.tup (SqT.of upd_same) ((t1.app t2).mono (Ext.new (R.s.sub.free hr))))
/-- list + list, a new list -/
theorem on_add : OpN K mg (addR K) (fun x y P => match x, y with
  | .lst a, .lst b => a.length + b.length ≤ sizeLine ∧ P (.lst (a ++ b))
  | _, _ => False) := fun D as G ev σ H tx ty x y P Q R hx hy h q => by
  match tx, ty, h with
  | .lst a, .lst b, h =>
    obtain ⟨p, vs, rfl, e1, t1⟩ := hx
    obtain ⟨p2, vs2, rfl, e2, t2⟩ := hy
    refine .inr (.inr (.inl ⟨p, p2, vs, vs2, rfl, rfl, e1, e2, by rw [← t1.length, ← t2.length]; exact h.1, fun r hr => ?_⟩))
    exact q _ r _ h.2 (R.new hr) (R.own hr (.lst (t1.app t2))) (R.notOw hr)
def gMul : G2 := fun x y P => match x, y with
  | .int i, .int j => CMul i j ∧ P (.int (i * j))
  | .lst ts, .int k => (-(2 ^ 63) ≤ k ∧ k < 2 ^ 63 ∧ ts.length * k.toNat ≤ sizeLine) ∧ P (.lst (List.replicate k.toNat ts).flatten)
  | _, _ => False
theorem os_mul : OpS K mg mulR gMul := fun D as G ev σ H tx ty x y P Q R hx hy h q => by
  match tx, ty, h with
  | .int i, .int j, h =>
    cases (show x = .int i from hx)
    cases (show y = .int j from hy)
    exact .inl ⟨i, j, rfl, rfl, h.1, q _ _ G H h.2 R Ext.refl (.int _)⟩
  | .lst ts, .int k, h =>
    obtain ⟨p, vs, rfl, e1, t1⟩ := hx
    cases (show y = .int k from hy)
    exact .inr ⟨p, k, vs, rfl, rfl, e1, h.1.1, h.1.2.1, by rw [← t1.length]; exact h.1.2.2, fun r hr => q _ _ _ _ h.2 (R.fz hr) (Ext.new (R.s.sub.free hr)) (.lst upd_same ((t1.rep _).mono (Ext.new (R.s.sub.free hr))))⟩
/-! ## ==, !=, in, not in of data; is None -/
def gEq : G2 := fun x y P => ∃ d e, toP x = some d ∧ toP y = some e ∧ min d.depth e.depth ≤ 60 ∧ P (.bl (PyData.eqv d e))
def gNe : G2 := fun x y P => ∃ d e, toP x = some d ∧ toP y = some e ∧ min d.depth e.depth ≤ 60 ∧ P (.bl (!PyData.eqv d e))
theorem os_eq : OpS K mg (eqR K) gEq := fun D as G ev σ H tx ty x y P Q R hx hy ⟨d, e, h1, h2, h3, h⟩ q => .inr ⟨d, e, hx.dp R.s.sub h1, hy.dp R.s.sub h2, h3, q _ _ G H h R Ext.refl (.bl _)⟩
theorem os_ne : OpS K mg (neR K) gNe := fun D as G ev σ H tx ty x y P Q R hx hy ⟨d, e, h1, h2, h3, h⟩ q => .inr ⟨d, e, hx.dp R.s.sub h1, hy.dp R.s.sub h2, h3, q _ _ G H h R Ext.refl (.bl _)⟩
def gIn : G2 := fun x y P => match y with
  | .lst ts => ∃ d ds, toP x = some d ∧ toPs ts = some ds ∧ d.depth ≤ 60 ∧ P (.bl (hasD ds d))
  | .tup ts => ∃ d ds, toP x = some d ∧ toPs ts = some ds ∧ d.depth ≤ 60 ∧ P (.bl (hasD ds d))
  | .str z => ∃ c, x = .str ⟨#[c]⟩ ∧ P (.bl (decide (c ∈ cs z)))
  | _ => False
def gNotIn : G2 := fun x y P => match y with
  | .lst ts => ∃ d ds, toP x = some d ∧ toPs ts = some ds ∧ d.depth ≤ 60 ∧ P (.bl (!hasD ds d))
  | .tup ts => ∃ d ds, toP x = some d ∧ toPs ts = some ds ∧ d.depth ≤ 60 ∧ P (.bl (!hasD ds d))
  | .str z => ∃ c, x = .str ⟨#[c]⟩ ∧ P (.bl (!decide (c ∈ cs z)))
  | _ => False
theorem os_in : OpS K mg (inR K) gIn := fun D as G ev σ H tx ty x y P Q R hx hy h q => by
  cases ty with
  | lst ts =>
    obtain ⟨d, ds, h1, h2, h3, h⟩ := h
    exact .inr (.inr ⟨d, ds, hx.dp R.s.sub h1, .inl (hy.dp R.s.sub (by rw [toP, h2]; rfl)), h3, q _ _ G H h R Ext.refl (.bl _)⟩)
  | tup ts =>
    obtain ⟨d, ds, h1, h2, h3, h⟩ := h
    exact .inr (.inr ⟨d, ds, hx.dp R.s.sub h1, .inr (hy.dp R.s.sub (by rw [toP, h2]; rfl)), h3, q _ _ G H h R Ext.refl (.bl _)⟩)
  | str z =>
    obtain ⟨c, rfl, h⟩ := h
    exact .inl ⟨c, z, hx, hy, q _ _ G H h R Ext.refl (.bl _)⟩
  | _ => exact (show False from h).elim
theorem os_notIn : OpS K mg (notInR K) gNotIn := fun D as G ev σ H tx ty x y P Q R hx hy h q => by
  cases ty with
  | lst ts =>
    obtain ⟨d, ds, h1, h2, h3, h⟩ := h
    exact .inr (.inr ⟨d, ds, hx.dp R.s.sub h1, .inl (hy.dp R.s.sub (by rw [toP, h2]; rfl)), h3, q _ _ G H h R Ext.refl (.bl _)⟩)
  | tup ts =>
    obtain ⟨d, ds, h1, h2, h3, h⟩ := h
    exact .inr (.inr ⟨d, ds, hx.dp R.s.sub h1, .inr (hy.dp R.s.sub (by rw [toP, h2]; rfl)), h3, q _ _ G H h R Ext.refl (.bl _)⟩)
  | str z =>
    obtain ⟨c, rfl, h⟩ := h
    exact .inl ⟨c, z, hx, hy, q _ _ G H h R Ext.refl (.bl _)⟩
  | _ => exact (show False from h).elim
def isNon : T → Bool
  | .non => true
  | _ => false
def gIs : G2 := fun x y P => match y with
  | .non => P (.bl (isNon x))
  | _ => False
def gIsNot : G2 := fun x y P => match y with
  | .non => P (.bl (!isNon x))
  | _ => False
theorem isNon_hv {as : List Addr} {G H : Hp} {t : T} {v : V} (h : HV K mg as G H t v) : decide (v = .non) = isNon t := by
  cases t with
  | non => cases (show v = .non from h); rfl
  | bl b => cases (show v = .bl b from h); rfl
  | int b => cases (show v = .int b from h); rfl
  | str b => cases (show v = .str b from h); rfl
  | ty b => cases (show v = .ty b from h); rfl
  | lst b => obtain ⟨a, vs, rfl, _⟩ := h; rfl
  | tup b => obtain ⟨a, vs, rfl, _⟩ := h; rfl
  | dct b => obtain ⟨a, vs, rfl, _⟩ := h; rfl
  | ins c b => obtain ⟨a, C, dx, fs, rfl, _⟩ := h; rfl
  | scr b => obtain ⟨a, rfl, _⟩ := h; rfl
  | glob b => obtain ⟨a, rfl, _⟩ := h; rfl
  | cell b => obtain ⟨a, rfl, _⟩ := h; rfl
  | exc _ _ _ _ => cases (show TV K mg as G _ _ from h) <;> rfl
  | ev _ _ => cases (show TV K mg as G _ _ from h) <;> rfl
theorem os_is : OpS K mg (fun x y H Q => y = .non ∧ Q (.bl (decide (x = .non))) H) gIs := fun D as G ev σ H tx ty x y P Q R hx hy h q => by
  cases ty with
  | non => exact ⟨hy, by rw [isNon_hv hx]; exact q _ _ G H h R Ext.refl (.bl _)⟩
  | _ => exact (show False from h).elim
theorem os_isNot : OpS K mg (fun x y H Q => y = .non ∧ Q (.bl (!decide (x = .non))) H) gIsNot := fun D as G ev σ H tx ty x y P Q R hx hy h q => by
  cases ty with
  | non => exact ⟨hy, by rw [isNon_hv hx]; exact q _ _ G H h R Ext.refl (.bl _)⟩
  | _ => exact (show False from h).elim
/-! ## subscripts -/
theorem atI_tv {as : List Addr} {G : Hp} {ts : List T} {vs : List V} (h : TVs K mg as G ts vs) {i : Int} {t : T} (e : atI ts i = some t) : ∃ v, atI vs i = some v ∧ TV K mg as G t v := by
  unfold atI at e ⊢
  rw [← h.length]
  cases q : ixN ts.length i with
  | none => rw [q] at e; cases e
  | some j => rw [q] at e; exact h.get e
theorem atI_int {ns : List Int} {i : Int} {k : Int} (e : atI ns i = some k) : atI (ns.map V.int) i = some (.int k) := by
  unfold atI at e ⊢
  rw [List.length_map]
  cases q : ixN ns.length i with
  | none => rw [q] at e; cases e
  | some j =>
    rw [q] at e
    show (ns.map V.int)[j]? = _
    rw [List.getElem?_map, show ns[j]? = some k from e]
    rfl
def gIx : G2 := fun x y P => match y with
  | .int i => match x with
    | .lst ts => ∃ t, atI ts i = some t ∧ P t
    | .tup ts => ∃ t, atI ts i = some t ∧ P t
    | .scr ns => ∃ k, atI ns i = some k ∧ P (.int k)
    | .str z => z.length ≤ sizeLine ∧ ∃ c, atI (cs z) i = some c ∧ P (.str ⟨#[c]⟩)
    | _ => False
  | _ => False
theorem os_ix : OpS K mg (rIx K) gIx := fun D as G ev σ H tx ty x y P Q R hx hy h q => by
  cases ty with
  | int i =>
    cases (show y = .int i from hy)
    cases tx with
    | lst ts =>
      obtain ⟨t, e, h⟩ := h
      obtain ⟨a, vs, rfl, e1, t1⟩ := hx
      obtain ⟨v, hv, tv⟩ := atI_tv t1 e
      exact .inl ⟨a, vs, i, v, rfl, rfl, SqL.of e1, hv, q _ _ G H h R Ext.refl tv⟩
    | tup ts =>
      obtain ⟨t, e, h⟩ := h
      obtain ⟨a, vs, rfl, e1, t1⟩ := hx
      obtain ⟨v, hv, tv⟩ := atI_tv t1 e
      exact .inr (.inl ⟨a, vs, i, v, rfl, rfl, SqT.le R.s.sub e1, hv, q _ _ G H h R Ext.refl tv⟩)
    | scr ns =>
      obtain ⟨k, e, h⟩ := h
      obtain ⟨a, rfl, e1⟩ := hx
      exact .inl ⟨a, _, i, .int k, rfl, rfl, e1, atI_int e, q _ _ G H h R Ext.refl (.int k)⟩
    | str z =>
      obtain ⟨hz, c, e, h⟩ := h
      cases (show x = .str z from hx)
      exact .inr (.inr ⟨z, i, c, rfl, rfl, hz, e, q _ _ G H h R Ext.refl (.str _)⟩)
    | _ => exact (show False from h).elim
  | _ => exact (show False from h).elim
/-- the forms by kind -/
def gIxL : G2 := fun x y P => match x, y with
  | .lst ts, .int i => ∃ t, atI ts i = some t ∧ P t
  | .scr ns, .int i => ∃ k, atI ns i = some k ∧ P (.int k)
  | _, _ => False
theorem os_ixL : OpS K mg (rIxL K) gIxL := fun D as G ev σ H tx ty x y P Q R hx hy h q => by
  match tx, ty, h with
  | .lst ts, .int i, h =>
    cases (show y = .int i from hy)
    obtain ⟨t, e, h⟩ := h
    obtain ⟨a, vs, rfl, e1, t1⟩ := hx
    obtain ⟨v, hv, tv⟩ := atI_tv t1 e
    exact ⟨a, vs, i, v, rfl, rfl, SqL.of e1, hv, q _ _ G H h R Ext.refl tv⟩
  | .scr ns, .int i, h =>
    cases (show y = .int i from hy)
    obtain ⟨k, e, h⟩ := h
    obtain ⟨a, rfl, e1⟩ := hx
    exact ⟨a, _, i, .int k, rfl, rfl, e1, atI_int e, q _ _ G H h R Ext.refl (.int k)⟩
/-- d[k] -/
def dDGet (a b : DO) : DE := fun P X ev => a (fun x ev1 => b (fun y ev2 => vw ev2 x fun tx => vw ev2 y fun ty => match tx with
  | .dct kts => ∃ k t, toKey ty = some k ∧ valT kts k = some t ∧ P t ev2
  | _ => False) X ev1) X ev
theorem HV.key {as : List Addr} {G H : Hp} {t : T} {v : V} {k : Key} (h : HV K mg as G H t v) (e : toKey t = some k) : v = kV k := by
  cases t with
  | int i => cases e; exact h
  | str i => cases e; exact h
  | _ => cases e
theorem snd_dget {ta tb : TE} {fa fb : DO} (h : SndO K mg E ta fa) (k : SndO K mg E tb fb) : Snd K mg E (tDGet ta tb) (dDGet fa fb) := fun D as G ev σ H Q P X R hf hP hX =>
  h D as G ev σ H _ _ X R hf (fun x ev1 as1 G1 v H1 p R1 x1 tv => k D as1 G1 ev1 σ H1 _ _ X R1 p (fun y ev2 as2 G2 w H2 p2 R2 x2 tw => by
    obtain ⟨tx, _, h1, p3⟩ := vw_ok R2 (tv.mono x2) p2
    obtain ⟨ty, _, h2, p4⟩ := vw_ok R2 tw p3
    cases tx with
    | dct kts =>
      obtain ⟨k, t, ek, et, p5⟩ := p4
      obtain ⟨a, kvs, rfl, hr, n, b⟩ := h1
      rw [h2.key ek]
      rcases (show TKs K mg as2 G2 kts kvs from ⟨n, b⟩).val k with ⟨z, _⟩ | ⟨t', v', z, z2, tv'⟩
      · rw [et] at z; cases z
      · rw [et] at z
        cases z
        exact ⟨a, v', rfl, .inl ⟨kvs, k, hr, rfl, z2.symm⟩, hP _ ev2 as2 G2 _ H2 p5 R2 (x1.trans x2) tv'⟩
    | _ => exact (show False from p4).elim) (hX.ext x1)) hX
/-- k in d -/
def dDIn (neg : Bool) (a b : DO) : DE := fun P X ev => a (fun x ev1 => b (fun y ev2 => vw ev2 x fun tx => vw ev2 y fun ty => match ty with
  | .dct kts => ∃ k, toKey tx = some k ∧ P (.bl (if neg then !(valT kts k).isSome else (valT kts k).isSome)) ev2
  | _ => False) X ev1) X ev
theorem din_ok {as : List Addr} {G H : Hp} {kts : List (Key × T)} {x : V} {tx : T} {k : Key} {w : V} (h1 : HV K mg as G H (.dct kts) w) (h2 : HV K mg as G H tx x) (ek : toKey tx = some k) : ∃ a o, w = .ref a ∧ DGet H a x o ∧ o.isSome = (valT kts k).isSome := by
  obtain ⟨a, kvs, rfl, hr, n, b⟩ := h1
  rw [h2.key ek]
  refine ⟨a, valV kvs k, rfl, .inl ⟨kvs, k, hr, rfl, rfl⟩, ?_⟩
  rcases (show TKs K mg as G kts kvs from ⟨n, b⟩).val k with ⟨z, z2⟩ | ⟨t', v', z, z2, tv'⟩
  · rw [z, z2]; rfl
  · rw [z, z2]; rfl
theorem snd_din {ta tb : TE} {fa fb : DO} (h : SndO K mg E ta fa) (k : SndO K mg E tb fb) : Snd K mg E (tDIn ta tb) (dDIn false fa fb) := fun D as G ev σ H Q P X R hf hP hX =>
  h D as G ev σ H _ _ X R hf (fun x ev1 as1 G1 v H1 p R1 x1 tv => k D as1 G1 ev1 σ H1 _ _ X R1 p (fun y ev2 as2 G2 w H2 p2 R2 x2 tw => by
    obtain ⟨tx, _, h1, p3⟩ := vw_ok R2 (tv.mono x2) p2
    obtain ⟨ty, _, h2, p4⟩ := vw_ok R2 tw p3
    cases ty with
    | dct kts =>
      obtain ⟨k, ek, p5⟩ := p4
      obtain ⟨a, o, rfl, g, e⟩ := din_ok h2 h1 ek
      exact ⟨a, o, rfl, g, by rw [e]; exact hP _ ev2 as2 G2 _ H2 p5 R2 (x1.trans x2) (.bl _)⟩
    | _ => exact (show False from p4).elim) (hX.ext x1)) hX
theorem snd_dnotin {ta tb : TE} {fa fb : DO} (h : SndO K mg E ta fa) (k : SndO K mg E tb fb) : Snd K mg E (tDNotIn ta tb) (dDIn true fa fb) := fun D as G ev σ H Q P X R hf hP hX =>
  h D as G ev σ H _ _ X R hf (fun x ev1 as1 G1 v H1 p R1 x1 tv => k D as1 G1 ev1 σ H1 _ _ X R1 p (fun y ev2 as2 G2 w H2 p2 R2 x2 tw => by
    obtain ⟨tx, _, h1, p3⟩ := vw_ok R2 (tv.mono x2) p2
    obtain ⟨ty, _, h2, p4⟩ := vw_ok R2 tw p3
    cases ty with
    | dct kts =>
      obtain ⟨k, ek, p5⟩ := p4
      obtain ⟨a, o, rfl, g, e⟩ := din_ok h2 h1 ek
      exact ⟨a, o, rfl, g, by rw [e]; exact hP _ ev2 as2 G2 _ H2 p5 R2 (x1.trans x2) (.bl _)⟩
    | _ => exact (show False from p4).elim) (hX.ext x1)) hX
/-! ## slices -/
def cutT (ts : List T) (lo hi : Option Int) : List T := (ts.drop (HT.sIx ts.length 0 lo)).take (HT.sIx ts.length ts.length hi - HT.sIx ts.length 0 lo)
theorem cut_tv {as : List Addr} {G : Hp} {ts : List T} {vs : List V} (h : TVs K mg as G ts vs) (lo hi : Option Int) : TVs K mg as G (cutT ts lo hi) (cutV vs lo hi) := by
  unfold cutT cutV
  rw [← h.length]
  exact (h.drop _).take _
abbrev DPo := (Option Int → Ev → Prop) → DX → Ev → Prop
def SndP (K : PySem.W.Frag) (mg : Str → Option Value) (E : L2.St → XK) (t : TO) (f : DPo) : Prop := ∀ D as G ev σ H (Q : Option Int → Hp → Prop) (P : Option Int → Ev → Prop) X, Rel K mg D as G ev σ H → f P X ev → (∀ r ev as' G' H', P r ev → Rel K mg D as' G' ev σ H' → Ext as G as' G' → Q r H') → PX K mg E D as G σ X → t σ H Q
def dpNo : DPo := fun P _ ev => P none ev
def dpSome (f : DE) : DPo := fun P X ev => f (fun t ev1 => match t with
  | .int i => P (some i) ev1
  | _ => False) X ev
theorem snd_pNo : SndP K mg E tNoPart dpNo := fun D as G ev σ H Q P X R hf hP hX => hP none ev as G H hf R Ext.refl
theorem snd_pSome {t : TE} {f : DE} (h : Snd K mg E t f) : SndP K mg E (tPart t) (dpSome f) := fun D as G ev σ H Q P X R hf hP hX =>
  h D as G ev σ H _ _ X R hf (fun r ev1 as1 G1 v H1 p R1 x1 tv => by
    cases tv with
    | int i => exact ⟨i, rfl, hP _ ev1 as1 G1 H1 p R1 x1⟩
    | _ => exact (show False from p).elim) hX
abbrev GS := T → Option Int → Option Int → (T → Prop) → Prop
def SlS (K : PySem.W.Frag) (mg : Str → Option Value) (r : V → Option Int → Option Int → Hp → VK → Prop) (g : GS) : Prop := ∀ (D : En) as G ev σ H t lo hi v (P : T → Prop) (Q : VK), Rel K mg D as G ev σ H → HV K mg as G H t v → g t lo hi P →
  (∀ t v G' H', P t → Rel K mg D as G' ev σ H' → Ext as G as G' → TV K mg as G' t v → Q v H') → r v lo hi H Q
def SlN (K : PySem.W.Frag) (mg : Str → Option Value) (r : V → Option Int → Option Int → Hp → VK → Prop) (g : GS) : Prop := ∀ (D : En) as G ev σ H t lo hi v (P : T → Prop) (Q : VK), Rel K mg D as G ev σ H → HV K mg as G H t v → g t lo hi P →
  (∀ t a H', P t → Rel K mg D as G ev σ H' → Own K mg D as G H' t a → ¬ InOw ev σ a → Q (.ref a) H') → r v lo hi H Q
def dSl (g : GS) (f : DO) (lo hi : DPo) : DE := fun P X ev => f (fun x ev1 => lo (fun l ev2 => hi (fun u ev3 => vw ev3 x fun t => g t l u fun r => P r ev3) X ev2) X ev1) X ev
theorem snd_sl {r : V → Option Int → Option Int → Hp → VK → Prop} {g : GS} {te : TE} {tl th : TO} {f : DO} {lo hi : DPo} (o : SlS K mg r g) (h : SndO K mg E te f) (hl : SndP K mg E tl lo) (hh : SndP K mg E th hi) : Snd K mg E (tSl r te tl th) (dSl g f lo hi) := fun D as G ev σ H Q P X R hf hP hX =>
  h D as G ev σ H _ _ X R hf (fun x ev1 as1 G1 v H1 p R1 x1 tv => hl D as1 G1 ev1 σ H1 _ _ X R1 p (fun l ev2 as2 G2 H2 p2 R2 x2 => hh D as2 G2 ev2 σ H2 _ _ X R2 p2 (fun u ev3 as3 G3 H3 p3 R3 x3 => by
    obtain ⟨t, _, h1, p4⟩ := vw_ok R3 (tv.mono (x2.trans x3)) p3
    exact o D as3 G3 ev3 σ H3 t l u v _ Q R3 h1 p4 fun t u G' H' p5 R5 x5 t5 => hP t ev3 as3 G' u H' p5 R5 (((x1.trans x2).trans x3).trans x5) t5) (hX.ext (x1.trans x2))) (hX.ext x1)) hX
theorem snd_slN {r : V → Option Int → Option Int → Hp → VK → Prop} {g : GS} {te : TE} {tl th : TO} {f : DO} {lo hi : DPo} (o : SlN K mg r g) (h : SndO K mg E te f) (hl : SndP K mg E tl lo) (hh : SndP K mg E th hi) : SndN K mg E (tSl r te tl th) (dSl g f lo hi) := fun D as G ev σ H Q P X R hf hP hX =>
  h D as G ev σ H _ _ X R hf (fun x ev1 as1 G1 v H1 p R1 x1 tv => hl D as1 G1 ev1 σ H1 _ _ X R1 p (fun l ev2 as2 G2 H2 p2 R2 x2 => hh D as2 G2 ev2 σ H2 _ _ X R2 p2 (fun u ev3 as3 G3 H3 p3 R3 x3 => by
    obtain ⟨t, _, h1, p4⟩ := vw_ok R3 (tv.mono (x2.trans x3)) p3
    exact o D as3 G3 ev3 σ H3 t l u v _ Q R3 h1 p4 fun t a H' p5 R5 O5 n5 => hP t ev3 as3 G3 a H' p5 R5 ((x1.trans x2).trans x3) O5 n5) (hX.ext (x1.trans x2))) (hX.ext x1)) hX
def gSlS : GS := fun t lo hi P => match t with
  | .str z => z.length ≤ sizeLine ∧ P (.str (cutS z lo hi))
  | _ => False
def gSlL : GS := fun t lo hi P => match t with
  | .lst ts => P (.lst (cutT ts lo hi))
  | .scr ns => P (.lst (cutT (ns.map .int) lo hi))
  | _ => False
def gSlT : GS := fun t lo hi P => match t with
  | .tup ts => P (.tup (cutT ts lo hi))
  | _ => False
theorem ints_tv {as : List Addr} {G : Hp} : ∀ {ns : List Int}, TVs K mg as G (ns.map .int) (ns.map V.int)
  | [] => .nil
  | _ :: _ => .cons (.int _) ints_tv
theorem os_slS : SlS K mg rSlS gSlS := fun D as G ev σ H t lo hi v P Q R hv h q => by
  cases t with
  | str z => cases (show v = .str z from hv); exact ⟨z, rfl, h.1, q _ _ G H h.2 R Ext.refl (.str _)⟩
  | _ => exact (show False from h).elim
theorem on_slL : SlN K mg (rSlL K) gSlL := fun D as G ev σ H t lo hi v P Q R hv h q => by
  cases t with
  | lst ts =>
    obtain ⟨a, vs, rfl, e, b⟩ := hv
    exact ⟨a, vs, rfl, SqL.of e, fun p hp => q _ p _ h (R.new hp) (R.own hp (.lst (cut_tv b lo hi))) (R.notOw hp)⟩
  | scr ns =>
    obtain ⟨a, rfl, e⟩ := hv
    exact ⟨a, _, rfl, e, fun p hp => q _ p _ h (R.new hp) (R.own hp (.lst (cut_tv ints_tv lo hi))) (R.notOw hp)⟩
  | _ => exact (show False from h).elim
theorem os_slL : SlS K mg (rSlL K) gSlL := fun D as G ev σ H t lo hi v P Q R hv h q => by
  cases t with
  | lst ts =>
    obtain ⟨a, vs, rfl, e, b⟩ := hv
    exact ⟨a, vs, rfl, SqL.of e, fun p hp => q _ _ _ _ h (R.fz hp) (Ext.new (R.s.sub.free hp)) (.lst upd_same ((cut_tv b lo hi).mono (Ext.new (R.s.sub.free hp))))⟩
  | scr ns =>
    obtain ⟨a, rfl, e⟩ := hv
    exact ⟨a, _, rfl, e, fun p hp => q _ _ _ _ h (R.fz hp) (Ext.new (R.s.sub.free hp)) (.lst upd_same ((cut_tv ints_tv lo hi).mono (Ext.new (R.s.sub.free hp))))⟩
  | _ => exact (show False from h).elim
theorem os_slT : SlS K mg (rSlA K) gSlT := fun D as G ev σ H t lo hi v P Q R hv h q => by
  cases t with
  | tup ts =>
    obtain ⟨a, vs, rfl, e, b⟩ := hv
    have c := cut_tv b lo hi
    refine ⟨a, vs, rfl, SqT.le R.s.sub e, fun z => ?_, fun _ p hp => q _ _ _ _ h (R.fz hp) (Ext.new (R.s.sub.free hp)) (.tup (SqT.of upd_same) (c.mono (Ext.new (R.s.sub.free hp))))⟩
    refine q _ _ G H h R Ext.refl (.tup e ?_)
    have : cutT ts lo hi = ts := by
      unfold cutT
      rw [← b.length] at z
      rw [z.1, z.2]
      simp
    rw [this]
    exact b
  | _ => exact (show False from h).elim
end
end Fu
set_option Elab.async false
set_option linter.all false
set_option maxRecDepth 100000
set_option maxHeartbeats 4000000
namespace Fu
open PySem PySem.Spec PyProof.Rows L2 Hv
/-! # built-in functions, methods, stores, by what is seen -/
section
variable {K : PySem.W.Frag} {mg : Str → Option Value} {E : L2.St → XK}
theorem hvs1 {as : List Addr} {G H : Hp} {t : T} {vs : List V} (h : HVs K mg as G H [t] vs) : ∃ v, vs = [v] ∧ HV K mg as G H t v := by
  cases h with
  | cons a b => cases b; exact ⟨_, rfl, a⟩
theorem hvs2 {as : List Addr} {G H : Hp} {t u : T} {vs : List V} (h : HVs K mg as G H [t, u] vs) : ∃ v w, vs = [v, w] ∧ HV K mg as G H t v ∧ HV K mg as G H u w := by
  cases h with
  | cons a b =>
    obtain ⟨w, rfl, c⟩ := hvs1 b
    exact ⟨_, w, rfl, a, c⟩
/-! ## len -/
def lenQ (K : PySem.W.Frag) : List V → Hp → VK → Prop := fun xs H Q => (∃ x n, xs = [x] ∧ LenV K x H n ∧ Q (.int n) H) ∨ ∃ a kvs, xs = [V.ref a] ∧ Rd H a (.dK kvs) ∧ Q (.int kvs.length) H
theorem lenQc {X : Cx} (hK : X.K = K) : CallR X (.builtin "len") (lenQ K) := by
  subst hK
  intro pins s σ H xs us Q I r h
  rcases h with h | ⟨a, kvs, rfl, ha, q⟩
  · exact call_len pins s σ H xs us Q I r h
  · obtain rfl := Vals.ref1 r
    exact d_len I ha fun t s2 I2 => ⟨.int kvs.length, H, I2, ⟨t, rfl⟩, q⟩
def gLen : GL := fun ts P => match ts with
  | [.lst us] => P (.int us.length)
  | [.tup us] => P (.int us.length)
  | [.dct us] => P (.int us.length)
  | [.scr us] => P (.int us.length)
  | [.str z] => z.length ≤ sizeLine ∧ P (.int z.length)
  | _ => False
theorem cs_len' : CalS K mg (lenQ K) gLen := fun D as G ev σ H ts vs P Q R hv h q => by
  match ts, h with
  | [.lst us], h =>
    obtain ⟨v, rfl, a, ws, rfl, e, b⟩ := hvs1 hv
    exact .inl ⟨_, _, rfl, .inl ⟨ws, SqL.of e, rfl⟩, by rw [← b.length]; exact q _ _ G H h R Ext.refl (.int _)⟩
  | [.tup us], h =>
    obtain ⟨v, rfl, a, ws, rfl, e, b⟩ := hvs1 hv
    exact .inl ⟨_, _, rfl, .inr ⟨ws, SqT.le R.s.sub e, rfl⟩, by rw [← b.length]; exact q _ _ G H h R Ext.refl (.int _)⟩
  | [.dct us], h =>
    obtain ⟨v, rfl, a, ws, rfl, e, n, b⟩ := hvs1 hv
    exact .inr ⟨a, ws, rfl, e, by rw [← (show TKs K mg as G us ws from ⟨n, b⟩).length]; exact q _ _ G H h R Ext.refl (.int _)⟩
  | [.scr us], h =>
    obtain ⟨v, rfl, a, rfl, e⟩ := hvs1 hv
    exact .inl ⟨_, us.length, rfl, .inl ⟨_, e, by rw [List.length_map]⟩, q _ _ G H h R Ext.refl (.int _)⟩
  | [.str z], h =>
    obtain ⟨v, rfl, rfl⟩ := hvs1 hv
    exact .inl ⟨_, _, rfl, ⟨h.1, rfl⟩, q _ _ G H h.2 R Ext.refl (.int _)⟩
/-! ## abs, max, min, int, divmod, bool, str -/
def absI (i : Int) : Int := if i < 0 then -i else i
def maxI (i j : Int) : Int := if j > i then j else i
def minI (i j : Int) : Int := if j < i then j else i
def boolI (k : Bool) : Int := if k then 1 else 0
def gAbs : GL := fun ts P => match ts with
  | [.int i] => P (.int (absI i))
  | _ => False
theorem cs_abs : CalS K mg (fun xs H Q => ∃ i, xs = [.int i] ∧ Q (.int (if i < 0 then -i else i)) H) gAbs := fun D as G ev σ H ts vs P Q R hv h q => by
  match ts, h with
  | [.int i], h => obtain ⟨v, rfl, rfl⟩ := hvs1 hv; exact ⟨i, rfl, q _ _ G H h R Ext.refl (.int _)⟩
def gMax2 : GL := fun ts P => match ts with
  | [.int i, .int j] => P (.int (maxI i j))
  | _ => False
def gMin2 : GL := fun ts P => match ts with
  | [.int i, .int j] => P (.int (minI i j))
  | _ => False
theorem cs_max2 : CalS K mg (fun xs H Q => ∃ i j, xs = [.int i, .int j] ∧ Q (.int (if j > i then j else i)) H) gMax2 := fun D as G ev σ H ts vs P Q R hv h q => by
  match ts, h with
  | [.int i, .int j], h => obtain ⟨v, w, rfl, rfl, rfl⟩ := hvs2 hv; exact ⟨i, j, rfl, q _ _ G H h R Ext.refl (.int _)⟩
theorem cs_min2 : CalS K mg (fun xs H Q => ∃ i j, xs = [.int i, .int j] ∧ Q (.int (if j < i then j else i)) H) gMin2 := fun D as G ev σ H ts vs P Q R hv h q => by
  match ts, h with
  | [.int i, .int j], h => obtain ⟨v, w, rfl, rfl, rfl⟩ := hvs2 hv; exact ⟨i, j, rfl, q _ _ G H h R Ext.refl (.int _)⟩
def gInt1 : GL := fun ts P => match ts with
  | [.int i] => P (.int i)
  | [.bl k] => P (.int (boolI k))
  | _ => False
theorem cs_int1 : CalS K mg (fun xs H Q => (∃ i, xs = [.int i] ∧ Q (.int i) H) ∨ ∃ k, xs = [.bl k] ∧ Q (.int (if k then 1 else 0)) H) gInt1 := fun D as G ev σ H ts vs P Q R hv h q => by
  match ts, h with
  | [.int i], h => obtain ⟨v, rfl, rfl⟩ := hvs1 hv; exact .inl ⟨i, rfl, q _ _ G H h R Ext.refl (.int _)⟩
  | [.bl k], h => obtain ⟨v, rfl, rfl⟩ := hvs1 hv; exact .inr ⟨k, rfl, q _ _ G H h R Ext.refl (.int _)⟩
def gDivmod : GL := fun ts P => match ts with
  | [.int i, .int j] => CDiv i j ∧ P (.tup [.int (i / j), .int (i % j)])
  | _ => False
theorem cs_divmod : CalS K mg (fun xs H Q => ∃ i j, xs = [.int i, .int j] ∧ CDiv i j ∧ ∀ p, H p = none → Q (.ref p) (upd H p (.tup [.int (i / j), .int (i % j)]))) gDivmod := fun D as G ev σ H ts vs P Q R hv h q => by
  match ts, h with
  | [.int i, .int j], h =>
    obtain ⟨v, w, rfl, rfl, rfl⟩ := hvs2 hv
    exact ⟨i, j, rfl, h.1, fun p hp => q _ _ _ _ h.2 (R.fz hp) (Ext.new (R.s.sub.free hp)) (.tup (SqT.of upd_same) (.cons (.int _) (.cons (.int _) .nil)))⟩
def gBool1 : GL := fun ts P => match ts with
  | [.int i] => P (.bl (i != 0))
  | [.bl k] => P (.bl k)
  | _ => False
theorem cs_bool1 : CalS K mg (fun xs H Q => (∃ i, xs = [.int i] ∧ Q (.bl (i != 0)) H) ∨ ∃ k, xs = [.bl k] ∧ Q (.bl k) H) gBool1 := fun D as G ev σ H ts vs P Q R hv h q => by
  match ts, h with
  | [.int i], h => obtain ⟨v, rfl, rfl⟩ := hvs1 hv; exact .inl ⟨i, rfl, q _ _ G H h R Ext.refl (.bl _)⟩
  | [.bl k], h => obtain ⟨v, rfl, rfl⟩ := hvs1 hv; exact .inr ⟨k, rfl, q _ _ G H h R Ext.refl (.bl _)⟩
def rStr1 : List V → Hp → VK → Prop := fun xs H Q => (∃ a, xs = [.str a] ∧ Q (.str a) H) ∨ ∃ i, xs = [.int i] ∧ i.natAbs.log2 < 1920 ∧ Q (.str (toString i)) H
theorem strC {X : Cx} : CallR X (.type "str") rStr1 := fun pins s σ H xs us Q I r h => h.elim (SkE.call_str_str pins s σ H xs us Q I r) (call_str_int pins s σ H xs us Q I r)
def gStr1 : GL := fun ts P => match ts with
  | [.str a] => P (.str a)
  | [.int i] => i.natAbs.log2 < 1920 ∧ P (.str (toString i))
  | _ => False
theorem cs_str1 : CalS K mg rStr1 gStr1 := fun D as G ev σ H ts vs P Q R hv h q => by
  match ts, h with
  | [.str i], h => obtain ⟨v, rfl, rfl⟩ := hvs1 hv; exact .inl ⟨i, rfl, q _ _ G H h R Ext.refl (.str _)⟩
  | [.int k], h => obtain ⟨v, rfl, rfl⟩ := hvs1 hv; exact .inr ⟨k, rfl, h.1, q _ _ G H h.2 R Ext.refl (.str _)⟩
/-! ## all, any, sum -/
def toBs : List T → Option (List Bool)
  | [] => some []
  | .bl b :: ts => (toBs ts).map (b :: ·)
  | _ :: _ => none
theorem bs_tv {as : List Addr} {G : Hp} : ∀ {ts : List T} {vs : List V} {bs : List Bool}, TVs K mg as G ts vs → toBs ts = some bs → vs = bs.map V.bl
  | [], _, _, .nil, e => by cases e; rfl
  | t :: ts, _, _, .cons a b, e => by
    cases a with
    | bl k =>
      rw [toBs, Option.map_eq_some_iff] at e
      obtain ⟨bs, e, rfl⟩ := e
      rw [bs_tv b e]
      rfl
    | _ => simp [toBs] at e
def gAll : GL := fun ts P => match ts with
  | [.lst us] => ∃ bs, toBs us = some bs ∧ P (.bl (bs.all id))
  | _ => False
def gAny : GL := fun ts P => match ts with
  | [.lst us] => ∃ bs, toBs us = some bs ∧ P (.bl (bs.any id))
  | _ => False
theorem cs_all : CalS K mg (rAll K) gAll := fun D as G ev σ H ts vs P Q R hv h q => by
  match ts, h with
  | [.lst us], h =>
    obtain ⟨bs, e2, h⟩ := h
    obtain ⟨v, rfl, a, ws, rfl, e, b⟩ := hvs1 hv
    have := bs_tv b e2
    subst this
    exact ⟨a, bs, rfl, SqL.of e, q _ _ G H h R Ext.refl (.bl _)⟩
theorem cs_any : CalS K mg (rAny K) gAny := fun D as G ev σ H ts vs P Q R hv h q => by
  match ts, h with
  | [.lst us], h =>
    obtain ⟨bs, e2, h⟩ := h
    obtain ⟨v, rfl, a, ws, rfl, e, b⟩ := hvs1 hv
    have := bs_tv b e2
    subst this
    exact ⟨a, bs, rfl, SqL.of e, q _ _ G H h R Ext.refl (.bl _)⟩
def toIs : List T → Option (List Int)
  | [] => some []
  | .int b :: ts => (toIs ts).map (b :: ·)
  | _ :: _ => none
theorem is_tv {as : List Addr} {G : Hp} : ∀ {ts : List T} {vs : List V} {bs : List Int}, TVs K mg as G ts vs → toIs ts = some bs → vs = bs.map V.int
  | [], _, _, .nil, e => by cases e; rfl
  | t :: ts, _, _, .cons a b, e => by
    cases a with
    | int k =>
      rw [toIs, Option.map_eq_some_iff] at e
      obtain ⟨bs, e, rfl⟩ := e
      rw [is_tv b e]
      rfl
    | _ => simp [toIs] at e
def gSum : GL := fun ts P => match ts with
  | [.lst us] => ∃ bs, toIs us = some bs ∧ P (.int bs.sum)
  | _ => False
theorem cs_sum : CalS K mg (rSum K) gSum := fun D as G ev σ H ts vs P Q R hv h q => by
  match ts, h with
  | [.lst us], h =>
    obtain ⟨bs, e2, h⟩ := h
    obtain ⟨v, rfl, a, ws, rfl, e, b⟩ := hvs1 hv
    have := is_tv b e2
    subst this
    exact ⟨a, bs, rfl, SqL.of e, q _ _ G H h R Ext.refl (.int _)⟩
/-! ## list, tuple, dict -/
def rListQ (K : PySem.W.Frag) : List V → Hp → VK → Prop := fun xs H Q => (∃ p ys, xs = [.ref p] ∧ (SqL K H p ys ∨ SqT K H p ys) ∧ ∀ l, H l = none → Q (.ref l) (upd H l (.lst ys))) ∨ ∃ p kvs, xs = [.ref p] ∧ Rd H p (.dK kvs) ∧ ∀ w, H w = none → Q (.ref w) (upd H w (.lst (kvs.map fun kv => kV kv.1)))
theorem keys_vals {P : Program} {w : World} : ∀ {kvs : List (Key × V)} {vs : List (Key × Value)} {us : List Value}, KV kvs vs → us.length = vs.length → (∀ (j : Nat) (u : Value), us[j]? = some u → ∃ k y, vs[j]? = some (k, y) ∧ (mixKind P w).is k u = true) → Vals (kvs.map fun kv => kV kv.1) us
  | [], [], [], _, _, _ => .nil
  | [], [], _ :: _, _, l, _ => by simp at l
  | p :: kvs, q :: vs, [], _, l, _ => by simp at l
  | p :: kvs, q :: vs, u :: us, .cons a b, l, h => by
    refine .cons ?_ (keys_vals b (by simpa using l) fun j u' e => h (j + 1) u' e)
    obtain ⟨k, y, e1, e2⟩ := h 0 u rfl
    cases e1
    show L2.RelV (kV p.1) u
    rw [a.1]
    exact keyIs_rel e2
  | [], _ :: _, _, h, _, _ => by cases h
  | _ :: _, [], _, h, _, _ => by cases h
theorem listQc {X : Cx} (hK : X.K = K) (hc : X.calm = true) : CallR X (.type "list") (rListQ K) := by
  subst hK
  intro pins s σ H xs us Q I r h
  rcases h with h | ⟨d, kvs, rfl, hd, q⟩
  · exact call_list_of pins s σ H xs us Q I r h
  · obtain rfl := Vals.ref1 r
    obtain ⟨sz, low, vs, kv, dd⟩ := dk_rd I.hok hd
    obtain ⟨epoch, at_⟩ := dd.dictAt
    have same_len : kvs.length = vs.length := Paired.length kv
    refine PySem.W.kdl_call (PySem.W.kdl_dict (knd := mixKind X.prog X.w) (kvs := vs) (ep := epoch) low) (I.ok.hd hc) at_ (by rw [← same_len]; exact sz) fun h2 tk out cap kept ho hacc => ?_
    have all : Vals (kvs.map fun kv => kV kv.1) out.toList := keys_vals (P := X.prog) (w := X.w) kv (by rw [Array.length_toList]; exact hacc.1) fun j u e => hacc.2 j u (by rw [← Array.getElem?_toList]; exact e)
    have new := I.laid (t' := tk) (o := .lst (kvs.map fun kv => kV kv.1)) kept (Nat.le_refl _) ⟨by rw [List.length_map]; exact sz, out.toList, cap, all, by rw [Array.toArray_toList]; exact ho⟩
    exact ⟨.ref s.heap.objs.size, _, new, rfl, q _ (I.hok.fresh (Nat.le_refl _))⟩
def gList : GL := fun ts P => match ts with
  | [.lst us] => P (.lst us)
  | [.tup us] => P (.lst us)
  | [.scr ns] => P (.lst (ns.map .int))
  | [.dct kts] => P (.lst (kts.map fun p => kT p.1))
  | _ => False
theorem kT_all {as : List Addr} {G : Hp} : ∀ {kts : List (Key × T)} {kvs : List (Key × V)}, kts.map (·.1) = kvs.map (·.1) → TVs K mg as G (kts.map fun p => kT p.1) (kvs.map fun p => kV p.1)
  | [], [], _ => .nil
  | p :: kts, q :: kvs, h => by
    have e := List.cons.inj h
    have e1 : p.1 = q.1 := e.1
    simp only [List.map_cons]
    rw [e1]
    exact .cons (kT_tv q.1) (kT_all e.2)
  | [], _ :: _, h => by simp at h
  | _ :: _, [], h => by simp at h
theorem cn_list : CalN K mg (rListQ K) gList := fun D as G ev σ H ts vs P Q R hv h q => by
  match ts, h with
  | [.lst us], h =>
    obtain ⟨v, rfl, a, ws, rfl, e, b⟩ := hvs1 hv
    exact .inl ⟨a, ws, rfl, .inl (SqL.of e), fun l hl => q _ l _ h (R.new hl) (R.own hl (.lst b)) (R.notOw hl)⟩
  | [.tup us], h =>
    obtain ⟨v, rfl, a, ws, rfl, e, b⟩ := hvs1 hv
    exact .inl ⟨a, ws, rfl, .inr (SqT.le R.s.sub e), fun l hl => q _ l _ h (R.new hl) (R.own hl (.lst b)) (R.notOw hl)⟩
  | [.scr ns], h =>
    obtain ⟨v, rfl, a, rfl, e⟩ := hvs1 hv
    exact .inl ⟨a, _, rfl, .inl e, fun l hl => q _ l _ h (R.new hl) (R.own hl (.lst ints_tv)) (R.notOw hl)⟩
  | [.dct kts], h =>
    obtain ⟨v, rfl, a, ws, rfl, e, n, b⟩ := hvs1 hv
    exact .inr ⟨a, ws, rfl, e, fun l hl => q _ l _ h (R.new hl) (R.own hl (.lst (kT_all n))) (R.notOw hl)⟩
/-- a new object, as one that stays -/
theorem cs_list : CalS K mg (rListQ K) gList := fun D as G ev σ H ts vs P Q R hv h q => cn_list D as G ev σ H ts vs (fun t => P t ∧ ∃ us, t = .lst us) Q R hv (by
  match ts, h with
  | [.lst us], h => exact ⟨h, _, rfl⟩
  | [.tup us], h => exact ⟨h, _, rfl⟩
  | [.scr ns], h => exact ⟨h, _, rfl⟩
  | [.dct kts], h => exact ⟨h, _, rfl⟩) fun t a H' ⟨h, us, e⟩ R' O nw => by
    subst e
    rcases own_stay R' O nw (Q := fun v H2 => v = .ref a → Q v H2) (fun G' H2 R2 x tv _ => q _ _ G' H2 h R2 x tv) with z | ⟨d, u, _, hd, _, _⟩
    · exact z rfl
    · obtain ⟨o, h1, h2⟩ := O.ob
      cases h2 with
      | lst b =>
        rename_i us'
        have R3 := R'.stay (.lst us') O nw
        have same : upd H' a (.lst us') = H' := by
          funext b
          by_cases e : b = a
          · rw [e, upd_same, h1]
          · rw [upd_ne e]
        rw [same] at R3
        exact q _ _ _ _ h R3 (Ext.new O.g) (.lst upd_same (b.mono (Ext.new O.g)))
def gTuple : GL := fun ts P => match ts with
  | [.lst us] => P (.tup us)
  | [.tup us] => P (.tup us)
  | [.scr ns] => P (.tup (ns.map .int))
  | _ => False
def rTupQ (K : PySem.W.Frag) : List V → Hp → VK → Prop := fun xs H Q => ∃ p ys, xs = [.ref p] ∧ ((SqL K H p ys ∧ ∀ l, H l = none → Q (.ref l) (upd H l (.tup ys))) ∨ (SqT K H p ys ∧ Q (.ref p) H))
theorem cs_tuple : CalS K mg (rTupQ K) gTuple := fun D as G ev σ H ts vs P Q R hv h q => by
  match ts, h with
  | [.lst us], h =>
    obtain ⟨v, rfl, a, ws, rfl, e, b⟩ := hvs1 hv
    exact ⟨a, ws, rfl, .inl ⟨SqL.of e, fun l hl => q _ _ _ _ h (R.fz hl) (Ext.new (R.s.sub.free hl)) (.tup (SqT.of upd_same) (b.mono (Ext.new (R.s.sub.free hl))))⟩⟩
  | [.scr ns], h =>
    obtain ⟨v, rfl, a, rfl, e⟩ := hvs1 hv
    exact ⟨a, _, rfl, .inl ⟨e, fun l hl => q _ _ _ _ h (R.fz hl) (Ext.new (R.s.sub.free hl)) (.tup (SqT.of upd_same) (ints_tv.mono (Ext.new (R.s.sub.free hl))))⟩⟩
  | [.tup us], h =>
    obtain ⟨v, rfl, a, ws, rfl, e, b⟩ := hvs1 hv
    exact ⟨a, ws, rfl, .inr ⟨SqT.le R.s.sub e, q _ _ G H h R Ext.refl (.tup e b)⟩⟩
/-- dict(pairs), dict(d) -/
def rDictQ (K : PySem.W.Frag) : List V → Hp → VK → Prop := fun xs H Q => (∃ (a : Addr) (ps : List Addr) (kvs : List (Key × V)), xs = [.ref a] ∧ SqL K H a (ps.map V.ref) ∧ Paired (fun p kv => SqT K H p [kV kv.1, kv.2]) ps kvs ∧ ∀ p, H p = none → Q (.ref p) (upd H p (.dK (mergeK [] kvs)))) ∨
  ∃ (a : Addr) (kvs : List (Key × V)), xs = [.ref a] ∧ Rd H a (.dK kvs) ∧ ∀ p, H p = none → Q (.ref p) (upd H p (.dK kvs))
theorem dictQc {X : Cx} (hK : X.K = K) (hc : X.calm = true) : CallR X (.type "dict") (rDictQ K) := by
  subst hK
  exact fun pins s σ H xs us Q I r h => h.elim (call_dictP hc pins s σ H xs us Q I r) (call_dictD pins s σ H xs us Q I r)
def pairL : List T → Option (Key × T)
  | [k, t] => (toKey k).map fun k => (k, t)
  | _ => none
def pairOf : T → Option (Key × T)
  | .tup us => pairL us
  | _ => none
def toPairs : List T → Option (List (Key × T))
  | [] => some []
  | t :: ts => match pairOf t, toPairs ts with
    | some p, some r => some (p :: r)
    | _, _ => none
def mergeT (kts more : List (Key × T)) : List (Key × T) := more.foldl (fun acc kv => putT acc kv.1 kv.2) kts
theorem merge_tk {as : List Addr} {G : Hp} : ∀ {more : List (Key × T)} {mo : List (Key × V)} {kts : List (Key × T)} {kvs : List (Key × V)}, TKs K mg as G more mo → TKs K mg as G kts kvs → TKs K mg as G (mergeT kts more) (mergeK kvs mo)
  | [], mo, kts, kvs, h, h2 => by have := h.length; cases mo with
    | nil => exact h2
    | cons _ _ => simp at this
  | p :: more, mo, kts, kvs, h, h2 => by
    obtain ⟨q, rs, rfl, e, a, hr⟩ := h.cons'
    unfold mergeT mergeK
    simp only [List.foldl_cons]
    refine merge_tk hr ?_
    rw [e]
    exact h2.put q.1 a
theorem pairL_tv {as : List Addr} {G : Hp} : ∀ {us : List T} {ws : List V} {p : Key × T}, TVs K mg as G us ws → pairL us = some p → ∃ v, ws = [kV p.1, v] ∧ TV K mg as G p.2 v
  | [], _, _, _, e => by cases e
  | [_], _, _, _, e => by cases e
  | _ :: _ :: _ :: _, _, _, _, e => by cases e
  | [k, u], ws, p, h, e => by
    simp only [pairL, Option.map_eq_some_iff] at e
    obtain ⟨kk, hk, rfl⟩ := e
    obtain ⟨x, r, rfl, ck, h⟩ := h.cons'
    obtain ⟨y, r, rfl, cu, h⟩ := h.cons'
    cases h.nil'
    exact ⟨y, by rw [ck.key hk], cu⟩
theorem pairOf_tv {as : List Addr} {G : Hp} {t : T} {v : V} {p : Key × T} (h : TV K mg as G t v) (e : pairOf t = some p) : ∃ a w, v = .ref a ∧ SqT K G a [kV p.1, w] ∧ TV K mg as G p.2 w := by
  cases h with
  | tup h c =>
    obtain ⟨w, rfl, h2⟩ := pairL_tv c e
    exact ⟨_, w, rfl, h, h2⟩
  | _ => cases e
theorem pairs_tv {as : List Addr} {G H : Hp} (s : Same G H) : ∀ {ts : List T} {vs : List V} {kts : List (Key × T)}, TVs K mg as G ts vs → toPairs ts = some kts → ∃ (ps : List Addr) (kvs : List (Key × V)), vs = ps.map V.ref ∧ Paired (fun p kv => SqT K H p [kV kv.1, kv.2]) ps kvs ∧ TKs K mg as G kts kvs
  | [], _, _, .nil, e => by cases e; exact ⟨[], [], rfl, .nil, rfl, .nil⟩
  | t :: ts, _, _, .cons a b, e => by
    rw [toPairs] at e
    split at e
    · rename_i p r h1 h2
      cases e
      obtain ⟨ad, w, rfl, h3, h4⟩ := pairOf_tv a h1
      obtain ⟨ps, kvs, rfl, h5, h6⟩ := pairs_tv s b h2
      exact ⟨ad :: ps, (p.1, w) :: kvs, rfl, .cons (SqT.le s h3) h5, by rw [List.map_cons, List.map_cons, h6.1], .cons h4 h6.2⟩
    · cases e
def gDict : GL := fun ts P => match ts with
  | [.lst us] => ∃ kts, toPairs us = some kts ∧ P (.dct (mergeT [] kts))
  | [.dct kts] => P (.dct kts)
  | _ => False
theorem cn_dict : CalN K mg (rDictQ K) gDict := fun D as G ev σ H ts vs P Q R hv h q => by
  match ts, h with
  | [.lst us], h =>
    obtain ⟨kts, e2, h⟩ := h
    obtain ⟨v, rfl, a, ws, rfl, e, b⟩ := hvs1 hv
    obtain ⟨ps, kvs, rfl, h1, h2⟩ := pairs_tv R.s.sub b e2
    have tk := merge_tk h2 (kts := []) (kvs := []) ⟨rfl, .nil⟩
    exact .inl ⟨a, ps, kvs, rfl, SqL.of e, h1, fun l hl => q _ l _ h (R.new hl) (R.own hl (.dct tk.1 tk.2)) (R.notOw hl)⟩
  | [.dct kts], h =>
    obtain ⟨v, rfl, a, ws, rfl, e, n, b⟩ := hvs1 hv
    exact .inr ⟨a, ws, rfl, e, fun l hl => q _ l _ h (R.new hl) (R.own hl (.dct n b)) (R.notOw hl)⟩
/-! ## sorted(.., key=str) -/
def toSs : List T → Option (List Str)
  | [] => some []
  | .str b :: ts => (toSs ts).map (b :: ·)
  | _ :: _ => none
theorem ss_tv {as : List Addr} {G : Hp} : ∀ {ts : List T} {vs : List V} {bs : List Str}, TVs K mg as G ts vs → toSs ts = some bs → vs = bs.map V.str
  | [], _, _, .nil, e => by cases e; rfl
  | t :: ts, _, _, .cons a b, e => by
    cases a with
    | str k =>
      rw [toSs, Option.map_eq_some_iff] at e
      obtain ⟨bs, e, rfl⟩ := e
      rw [ss_tv b e]
      rfl
    | _ => simp [toSs] at e
theorem strs_tv {as : List Addr} {G : Hp} : ∀ {ns : List Str}, TVs K mg as G (ns.map .str) (ns.map V.str)
  | [] => .nil
  | _ :: _ => .cons (.str _) strs_tv
def keyS : Key → Option Str
  | .inr x => some x
  | _ => none
def keysS : List Key → Option (List Str)
  | [] => some []
  | .inr b :: ts => (keysS ts).map (b :: ·)
  | _ :: _ => none
theorem keysS_ok : ∀ {ks : List Key} {bs : List Str}, keysS ks = some bs → ks = bs.map Sum.inr
  | [], _, e => by cases e; rfl
  | .inr b :: ks, _, e => by
    rw [keysS, Option.map_eq_some_iff] at e
    obtain ⟨bs, e, rfl⟩ := e
    rw [keysS_ok e]
    rfl
  | .inl _ :: _, _, e => by simp [keysS] at e
def rSortQ (K : PySem.W.Frag) : List V → List V → Hp → VK → Prop := fun vs zs H Q => rSortK K vs zs H Q ∨ rSortDK vs zs H Q
theorem sortQ {X : Cx} (hK : X.K = K) (hc : X.calm = true) (hu : X.A.units + 65 < cLine) : CallRK X (.builtin "sorted") [Str.ofString "key"] (rSortQ K) := fun pins s σ H vs zs us ws Q I r rz h =>
  h.elim (sortedStrs hK hu pins s σ H vs zs us ws Q I r rz) (sortedDict hc hu pins s σ H vs zs us ws Q I r rz)
def dSort (a : DR) : DE := fun P X ev => a (fun rs ev1 => vws ev1 rs fun ts => match ts with
  | [.lst us] => ∃ xs, toSs us = some xs ∧ P (.lst ((sortS xs).map .str)) ev1
  | [.dct kts] => ∃ xs, keysS (kts.map (·.1)) = some xs ∧ P (.lst ((sortS xs).map .str)) ev1
  | _ => False) X ev
theorem snd_sortN {t : TA} {f : DR} (h : SndR K mg E t f) : SndN K mg E (tCKw (rSortQ K) t (tCons (tC (.ty "str")) tNil)) (dSort f) := fun D as G ev σ H Q P X R hf hP hX =>
  h D as G ev σ H _ _ X R hf (fun rs ev1 as1 G1 vs H1 p R1 x1 tv => by
    obtain ⟨us, h1, p2⟩ := vws_ok R1 tv p
    match us, p2 with
    | [.lst us], p2 =>
      obtain ⟨xs, e2, p3⟩ := p2
      obtain ⟨v, rfl, a, ws, rfl, e, b⟩ := hvs1 h1
      have := ss_tv b e2
      subst this
      exact .inl ⟨a, xs, rfl, rfl, SqL.of e, fun w hw => hP _ ev1 as1 G1 w _ p3 (R1.new hw) x1 (R1.own hw (.lst strs_tv)) (R1.notOw hw)⟩
    | [.dct kts], p2 =>
      obtain ⟨xs, e2, p3⟩ := p2
      obtain ⟨v, rfl, a, ws, rfl, e, n, b⟩ := hvs1 h1
      exact .inr ⟨a, ws, xs, rfl, rfl, e, by rw [← n]; exact keysS_ok e2, fun w hw => hP _ ev1 as1 G1 w _ p3 (R1.new hw) x1 (R1.own hw (.lst strs_tv)) (R1.notOw hw)⟩) hX
/-! ## isinstance -/
inductive TagV (mg : Str → Option Value) : Tag → Value → Prop
  | ty (n : String) : TagV mg (.inl n) (.type n)
  | own {x : Str} {C : Addr} : mg x = some (.ref C) → TagV mg (.inr x) (.ref C)
def tagOf : T → Option Tag
  | .non => some (.inl "NoneType")
  | .bl _ => some (.inl "bool")
  | .int _ => some (.inl "int")
  | .str _ => some (.inl "str")
  | .lst _ => some (.inl "list")
  | .scr _ => some (.inl "list")
  | .tup _ => some (.inl "tuple")
  | .dct _ => some (.inl "dict")
  | .ins c _ => some (.inr c)
  | _ => none
theorem CI.tyOf {C : Addr} {fs : List (Str × V)} (c : CI K C fs) {H : Hp} {a dx : Addr} {gs : List (Str × V)} (e : H a = some (.ins C dx gs)) : TyOf K H (.ref a) (.ref C) := .ins e c.cls c.ha c.hn c.ht c.hm
theorem HV.ty {as : List Addr} {G H : Hp} (s : Same G H) {t : T} {v : V} {g : Tag} (h : HV K mg as G H t v) (e : tagOf t = some g) : ∃ u, TagV mg g u ∧ TyX K H v u := by
  cases t with
  | non => cases e; cases (show v = .non from h); exact ⟨_, .ty _, .base .non⟩
  | bl b => cases e; cases (show v = .bl b from h); exact ⟨_, .ty _, .base (.bl b)⟩
  | int b => cases e; cases (show v = .int b from h); exact ⟨_, .ty _, .base (.int b)⟩
  | str b => cases e; cases (show v = .str b from h); exact ⟨_, .ty _, .base (.str b)⟩
  | lst b => cases e; obtain ⟨a, vs, rfl, e, _⟩ := h; exact ⟨_, .ty _, .base (.lst e)⟩
  | scr b => cases e; obtain ⟨a, rfl, e⟩ := h; exact ⟨_, .ty _, SqL.ty e⟩
  | tup b => cases e; obtain ⟨a, vs, rfl, e, _⟩ := h; exact ⟨_, .ty _, SqT.ty (SqT.le s e)⟩
  | dct b =>
    cases e
    obtain ⟨a, vs, rfl, e, _⟩ := h
    rcases e with e | ⟨o, e⟩
    · exact ⟨_, .ty _, .base (.dK e)⟩
    · exact ⟨_, .ty _, .fDict e⟩
  | ins c b => cases e; obtain ⟨a, C, dx, fs, rfl, m, ci, e, _⟩ := h; exact ⟨_, .own m, .base (ci.tyOf e)⟩
  | _ => cases e
/-- what isinstance answers, class by class -/
structure IsF (K : PySem.W.Frag) (mg : Str → Option Value) (q : Tag → Tag → Option Bool) : Prop where
  ok : ∀ a b t u r, TagV mg a t → TagV mg b u → q a b = some r → PySem.W.kitOne K t u = some r
def dIsi (q : Tag → Tag → Option Bool) (c : Tag) (f : DO) : DE := fun P X ev => f (fun x ev1 => vw ev1 x fun t => ∃ g b, tagOf t = some g ∧ q g c = some b ∧ P (.bl b) ev1) X ev
theorem snd_isiB {q : Tag → Tag → Option Bool} (I : IsF K mg q) {n : String} {t : TE} {f : DO} (h : SndO K mg E t f) : Snd K mg E (tCB (rIsi K) (tCons t (tCons (tC (.ty n)) tNil))) (dIsi q (.inl n) f) := fun D as G ev σ H Q P X R hf hP hX =>
  h D as G ev σ H _ _ X R hf (fun x ev1 as1 G1 v H1 p R1 x1 tv => by
    obtain ⟨t, _, h1, g, b, e1, e2, p2⟩ := vw_ok R1 tv p
    obtain ⟨u, h3, h4⟩ := h1.ty R1.s.sub e1
    exact ⟨v, .ty n, u, .type n, b, rfl, .ty n, h4, I.ok g _ u _ b h3 (.ty n) e2, hP _ ev1 as1 G1 _ H1 p2 R1 x1 (.bl b)⟩) hX
theorem snd_isiO {q : Tag → Tag → Option Bool} (I : IsF K mg q) {x : Str} {C : Addr} (m : mg x = some (.ref C)) {t : TE} {f : DO} (h : SndO K mg E t f) : Snd K mg E (tCB (rIsi K) (tCons t (tCons (tC (.ref C)) tNil))) (dIsi q (.inr x) f) := fun D as G ev σ H Q P X R hf hP hX =>
  h D as G ev σ H _ _ X R hf (fun x ev1 as1 G1 v H1 p R1 x1 tv => by
    obtain ⟨t, _, h1, g, b, e1, e2, p2⟩ := vw_ok R1 tv p
    obtain ⟨u, h3, h4⟩ := h1.ty R1.s.sub e1
    exact ⟨v, .ref C, u, .ref C, b, rfl, .own C, h4, I.ok g _ u _ b h3 (.own m) e2, hP _ ev1 as1 G1 _ H1 p2 R1 x1 (.bl b)⟩) hX
/-! ## repr -/
/-- a plain value, of a dict -/
def flatP : T → Option PyData
  | .non => some .none
  | .bl b => some (.bool b)
  | .int i => some (.int i)
  | .str x => some (.str x)
  | _ => none
def flatPs : List (Key × T) → Option (List (PyData × PyData))
  | [] => some []
  | (k, t) :: r => match flatP t, flatPs r with
    | some d, some ds => some ((kD k, d) :: ds)
    | _, _ => none
def toR (t : T) : Option PyData := match t with
  | .dct kts => (flatPs kts).map PyData.dict
  | t => toP t
theorem flat_tk {as : List Addr} {G : Hp} : ∀ {kts : List (Key × T)} {kvs : List (Key × V)} {ps : List (PyData × PyData)}, TKs K mg as G kts kvs → flatPs kts = some ps → Paired (fun (p : Key × V) (q : PyData × PyData) => q.1 = kD p.1 ∧ sD p.2 = some q.2) kvs ps
  | [], kvs, ps, h, e => by cases e; have := h.length; cases kvs with
    | nil => exact .nil
    | cons _ _ => simp at this
  | (k, t) :: kts, kvs, ps, h, e => by
    obtain ⟨⟨qk, qv⟩, rs, rfl, e1, a, hr⟩ := h.cons'
    simp only at a e1
    rw [flatPs] at e
    split at e
    · rename_i d ds h1 h2
      cases e
      refine .cons ⟨by rw [← e1], ?_⟩ (flat_tk hr h2)
      cases a with
      | non => exact h1
      | bl b => exact h1
      | int b => exact h1
      | str b => exact h1
      | _ => cases h1
    · cases e
theorem HV.th {as : List Addr} {G H : Hp} (s : Same G H) {t : T} {v : V} {d : PyData} (h : HV K mg as G H t v) (e : toR t = some d) : Th K H v d := by
  cases t with
  | dct kts =>
    simp only [toR, Option.map_eq_some_iff] at e
    obtain ⟨ps, e, rfl⟩ := e
    obtain ⟨a, kvs, rfl, hr, n, b⟩ := h
    exact .inr ⟨a, kvs, ps, rfl, hr, flat_tk ⟨n, b⟩ e, rfl⟩
  | _ => simp only [toR] at e; exact .inl (h.dp s e)
def gRepr : GL := fun ts P => match ts with
  | [t] => ∃ d, toR t = some d ∧ d.showable = true ∧ d.depth ≤ 60 ∧ d.shown.length ≤ sizeLine ∧ P (.str d.shown)
  | _ => False
theorem cs_repr : CalS K mg (reprTR K) gRepr := fun D as G ev σ H ts vs P Q R hv h q => by
  match ts, h with
  | [t], h =>
    obtain ⟨d, e, h1, h2, h3, h⟩ := h
    obtain ⟨v, rfl, h4⟩ := hvs1 hv
    exact ⟨v, d, rfl, h4.th R.s.sub e, h1, h2, h3, q _ _ G H h R Ext.refl (.str _)⟩
end
end Fu
set_option Elab.async false
set_option linter.all false
set_option maxRecDepth 100000
set_option maxHeartbeats 4000000
namespace Fu
open PySem PySem.Spec PyProof.Rows L2 Hv
/-! # what changes: lists, dicts, attributes; texts put together -/
section
variable {K : PySem.W.Frag} {mg : Str → Option Value} {E : L2.St → XK}
/-- the cell c: its contents, and how it is changed -/
def cellU (ev : Ev) (c : Nat) (k : T → (T → Ev) → Prop) : Prop := match ev.st[c]? with
  | some (false, t) => k t fun u => { ev with st := ev.st.set c (false, u) }
  | _ => False
def cellT (ev : Ev) (c : Nat) : Option (T × (T → Ev)) := match ev.st[c]? with
  | some (false, t) => some (t, fun u => { ev with st := ev.st.set c (false, u) })
  | _ => none
def uptoT (ev : Ev) (x : Rf) : Option (T × (T → Ev)) := match x with
  | .inl i => match ev.env[i]? with
    | some (.ow t) => some (t, fun u => { ev with env := ev.env.set i (.ow u) })
    | some (.fr (.cell c)) => cellT ev c
    | _ => none
  | .inr (.cell c) => cellT ev c
  | _ => none
/-- where x may be changed: what it is, and how it is changed -/
def upto (ev : Ev) (x : Rf) (k : T → (T → Ev) → Prop) : Prop := match uptoT ev x with
  | some p => k p.1 p.2
  | none => False
def upto0 (ev : Ev) (x : Rf) (k : T → (T → Ev) → Prop) : Prop := match x with
  | .inl i => match ev.env[i]? with
    | some (.ow t) => k t fun u => { ev with env := ev.env.set i (.ow u) }
    | some (.fr (.cell c)) => cellU ev c k
    | _ => False
  | .inr (.cell c) => cellU ev c k
  | _ => False
theorem cell_of {ev : Ev} {c : Nat} {k : T → (T → Ev) → Prop} (h : match cellT ev c with
  | some p => k p.1 p.2
  | none => False) : cellU ev c k := by
  unfold cellT at h
  unfold cellU
  cases q : ev.st[c]? with
  | none => simp only [q] at h
  | some p =>
    obtain ⟨b, t⟩ := p
    simp only [q] at h ⊢
    cases b with
    | true => exact h
    | false => exact h
theorem upto_of {ev : Ev} {x : Rf} {k : T → (T → Ev) → Prop} (h : upto ev x k) : upto0 ev x k := by
  unfold upto uptoT at h
  unfold upto0
  cases x with
  | inl i =>
    cases q : ev.env[i]? with
    | none => simp only [q] at h
    | some s =>
      simp only [q] at h ⊢
      cases s with
      | no => exact h
      | ow t => exact h
      | fr t => cases t with
        | cell c => exact cell_of h
        | _ => exact h
  | inr t => cases t with
    | cell c => exact cell_of h
    | _ => exact h
theorem cellU_ok {D : En} {as : List Addr} {G H : Hp} {ev : Ev} {σ : L2.St} {c : Nat} {a : Addr} {k : T → (T → Ev) → Prop} (R : Rel K mg D as G ev σ H) (ea : as[c]? = some a) (h : cellU ev c k) :
    ∃ t o up, H a = some o ∧ Obj' K mg as G t o ∧ k t up ∧ ∀ u o', Obj' K mg as G u o' → Rel K mg D as G (up u) σ (upd H a o') := by
  unfold cellU at h
  split at h
  · rename_i t e
    obtain ⟨g, o, ho, at_⟩ := R.s.cell c _ a e ea
    unfold Ats at at_
    rw [if_neg (by simp)] at at_
    exact ⟨t, o, _, at_, ho, h, fun u o' ho' => R.putC e ea ho'⟩
  · exact h.elim
theorem upto_ok {D : En} {as : List Addr} {G H : Hp} {ev : Ev} {σ : L2.St} {x : Rf} {v : V} {k : T → (T → Ev) → Prop} (R : Rel K mg D as G ev σ H) (hv : OV K mg as G σ x v) (h : upto ev x k) :
    ∃ a t o up, v = .ref a ∧ H a = some o ∧ Obj' K mg as G t o ∧ k t up ∧ ∀ u o', Obj' K mg as G u o' → Rel K mg D as G (up u) σ (upd H a o') := by
  replace h := upto_of h
  unfold upto0 at h
  split at h
  · rename_i i
    split at h
    · rename_i t e
      obtain ⟨a, h1, O⟩ := R.ow i t e
      rw [show σ[i]? = some (some v) from hv] at h1
      cases h1
      obtain ⟨o, h2, h3⟩ := O.ob
      exact ⟨a, t, o, _, rfl, h2, h3, h, fun u o' ho' => R.putO e hv ho'⟩
    · rename_i c e
      obtain ⟨w, h1, tv⟩ := R.fr i _ e
      rw [show σ[i]? = some (some v) from hv] at h1
      cases h1
      cases tv with
      | cell ea =>
        obtain ⟨t, o, up, h2, h3, h4, h5⟩ := cellU_ok R ea h
        exact ⟨_, t, o, up, rfl, h2, h3, h4, h5⟩
    · exact h.elim
  · rename_i c
    cases (show TV K mg as G (.cell c) v from hv) with
    | cell ea =>
      obtain ⟨t, o, up, h2, h3, h4, h5⟩ := cellU_ok R ea h
      exact ⟨_, t, o, up, rfl, h2, h3, h4, h5⟩
  · exact h.elim
/-- a list is seen -/
def seeL (ev : Ev) (x : Rf) (k : Prop) : Prop := match look ev x with
  | some (.lst _) => k
  | _ => False
theorem seeL_ok {D : En} {as : List Addr} {G H : Hp} {ev : Ev} {σ : L2.St} {x : Rf} {v : V} {k : Prop} (R : Rel K mg D as G ev σ H) (hv : OV K mg as G σ x v) (h : seeL ev x k) : tyV K "list" v H ∧ k := by
  unfold seeL at h
  split at h
  · rename_i ts e
    obtain ⟨a, vs, rfl, e1, _⟩ := look_ok R hv e
    exact ⟨.inl ⟨rfl, vs, SqL.of e1⟩, h⟩
  · exact h.elim
/-! ## lists -/
def dAppend (o : DO) (f : DE) : DE := fun P X ev => o (fun x ev1 => seeL ev1 x (f (fun t ev2 => upto ev2 x fun c up => match c with
  | .lst ts => ts.length < sizeLine ∧ P .non (up (.lst (ts ++ [t])))
  | _ => False) X ev1)) X ev
theorem snd_append {to te : TE} {o : DO} {f : DE} (h : SndO K mg E to o) (k : Snd K mg E te f) : Snd K mg E (tBM K "list" rAppend to (tCons te tNil)) (dAppend o f) := fun D as G ev σ H Q P X R hf hP hX =>
  h D as G ev σ H _ _ X R hf (fun x ev1 as1 G1 v H1 p R1 x1 tv => by
    obtain ⟨ty, p⟩ := seeL_ok R1 tv p
    refine ⟨ty, k D as1 G1 ev1 σ H1 _ _ X R1 p (fun t ev2 as2 G2 w H2 p2 R2 x2 tw => ?_) (hX.ext x1)⟩
    obtain ⟨a, c, ho, up, rfl, e, ob, p3, u⟩ := upto_ok R2 (tv.mono x2) p2
    cases ob with
    | lst b =>
      exact ⟨a, _, w, rfl, rfl, e, by rw [← b.length]; exact p3.1, hP _ _ as2 G2 _ _ p3.2 (u _ _ (.lst (b.app (.cons tw .nil)))) (x1.trans x2) .non⟩
    | _ => exact (show False from p3).elim) hX
def dExtend (o : DO) (f : DE) : DE := fun P X ev => o (fun x ev1 => seeL ev1 x (f (fun t ev2 => match t with
  | .lst us => upto ev2 x fun c up => match c with
    | .lst ts => ts.length + us.length ≤ sizeLine ∧ P .non (up (.lst (ts ++ us)))
    | _ => False
  | _ => False) X ev1)) X ev
theorem snd_extend {to te : TE} {o : DO} {f : DE} (h : SndO K mg E to o) (k : Snd K mg E te f) : Snd K mg E (tBM K "list" rExtend to (tCons te tNil)) (dExtend o f) := fun D as G ev σ H Q P X R hf hP hX =>
  h D as G ev σ H _ _ X R hf (fun x ev1 as1 G1 v H1 p R1 x1 tv => by
    obtain ⟨ty, p⟩ := seeL_ok R1 tv p
    refine ⟨ty, k D as1 G1 ev1 σ H1 _ _ X R1 p (fun t ev2 as2 G2 w H2 p2 R2 x2 tw => ?_) (hX.ext x1)⟩
    cases tw with
    | lst e2 b2 =>
      obtain ⟨a, c, ho, up, rfl, e, ob, p3, u⟩ := upto_ok R2 (tv.mono x2) p2
      cases ob with
      | lst b =>
        exact ⟨a, _, _, _, rfl, rfl, e, R2.s.sub _ _ e2, by rw [← b.length, ← b2.length]; exact p3.1, hP _ _ as2 G2 _ _ p3.2 (u _ _ (.lst (b.app b2))) (x1.trans x2) .non⟩
      | _ => exact (show False from p3).elim
    | _ => exact (show False from p2).elim) hX
/-- l.pop(i) -/
def dPopAt (o : DO) (f : DE) : DE := fun P X ev => o (fun x ev1 => seeL ev1 x (f (fun t ev2 => match t with
  | .int i => upto ev2 x fun c up => match c with
    | .lst ts => (-(2 ^ 63) ≤ i ∧ i < 2 ^ 63) ∧ ∃ k y, seqIndex? i ts.length = some k ∧ ts[k]? = some y ∧ P y (up (.lst (ts.eraseIdx k)))
    | _ => False
  | _ => False) X ev1)) X ev
theorem snd_popAt {to te : TE} {o : DO} {f : DE} (h : SndO K mg E to o) (k : Snd K mg E te f) : Snd K mg E (tBM K "list" rPopAt to (tCons te tNil)) (dPopAt o f) := fun D as G ev σ H Q P X R hf hP hX =>
  h D as G ev σ H _ _ X R hf (fun x ev1 as1 G1 v H1 p R1 x1 tv => by
    obtain ⟨ty, p⟩ := seeL_ok R1 tv p
    refine ⟨ty, k D as1 G1 ev1 σ H1 _ _ X R1 p (fun t ev2 as2 G2 w H2 p2 R2 x2 tw => ?_) (hX.ext x1)⟩
    cases tw with
    | int i =>
      obtain ⟨a, c, ho, up, rfl, e, ob, p3, u⟩ := upto_ok R2 (tv.mono x2) p2
      cases ob with
      | lst b =>
        obtain ⟨⟨l1, l2⟩, k, y, e3, e4, p4⟩ := p3
        obtain ⟨yv, e5, ty⟩ := b.get e4
        exact ⟨a, _, i, k, yv, rfl, rfl, e, l1, l2, by rw [← b.length]; exact e3, e5, hP _ _ as2 G2 _ _ p4 (u _ _ (.lst (b.erase k))) (x1.trans x2) ty⟩
      | _ => exact (show False from p3).elim
    | _ => exact (show False from p2).elim) hX
theorem dropLast_tv {as : List Addr} {G : Hp} {ts : List T} {vs : List V} (h : TVs K mg as G ts vs) : TVs K mg as G ts.dropLast vs.dropLast := by
  rw [List.dropLast_eq_take, List.dropLast_eq_take, h.length]
  exact h.take _
/-- l.pop() -/
def dPop (o : DO) : DE := fun P X ev => o (fun x ev1 => seeL ev1 x (upto ev1 x fun c up => match c with
  | .lst ts => ∃ y, ts[ts.length - 1]? = some y ∧ P y (up (.lst ts.dropLast))
  | _ => False)) X ev
theorem snd_pop {to : TE} {o : DO} (h : SndO K mg E to o) : Snd K mg E (tBM0 K "list" rPop to) (dPop o) := fun D as G ev σ H Q P X R hf hP hX =>
  h D as G ev σ H _ _ X R hf (fun x ev1 as1 G1 v H1 p R1 x1 tv => by
    obtain ⟨ty, p⟩ := seeL_ok R1 tv p
    refine ⟨ty, ?_⟩
    obtain ⟨a, c, ho, up, rfl, e, ob, p3, u⟩ := upto_ok R1 tv p
    cases ob with
    | lst b =>
      obtain ⟨y, e4, p4⟩ := p3
      obtain ⟨yv, e5, ty⟩ := b.get e4
      exact ⟨a, _, yv, rfl, rfl, e, by rw [← b.length]; exact e5, hP _ _ as1 G1 _ _ p4 (u _ _ (.lst (dropLast_tv b))) x1 ty⟩
    | _ => exact (show False from p3).elim) hX
/-- a new list, changed and thrown away: f().append(x), f().pop() -/
def dTmpAppend (f : DE) (g : DE) : DE := fun P X ev => f (fun t ev1 => match t with
  | .lst ts => g (fun _ ev2 => ts.length < sizeLine ∧ P .non ev2) X ev1
  | _ => False) X ev
theorem snd_tmpAppend {to te : TE} {f g : DE} (h : SndN K mg E to f) (k : Snd K mg E te g) : Snd K mg E (tBM K "list" rAppend to (tCons te tNil)) (dTmpAppend f g) := fun D as G ev σ H Q P X R hf hP hX =>
  h D as G ev σ H _ _ X R hf (fun r ev1 as1 G1 a H1 p R1 x1 O nw => by
    obtain ⟨o, e, ob⟩ := O.ob
    cases ob with
    | lst b =>
      rename_i ts vs
      refine ⟨.inl ⟨rfl, vs, SqL.of e⟩, ?_⟩
      obtain ⟨o1, o2⟩ := R1.out O.na O.g
      refine k (prot D a (.lst vs)) as1 G1 ev1 σ H1 _ _ X (R1.prot e O.new O.na O.g nw) p (fun t ev2 as2 G2 w H2 p2 R2 x2 tw => ?_) (px_prot (hX.ext x1) O.new o1 o2)
      obtain ⟨R3, e3, n3, g3, nw3⟩ := R2.unprot O.new o1 o2
      exact ⟨a, vs, w, rfl, rfl, e3, by rw [← b.length]; exact p2.1, hP _ ev2 as2 G2 _ _ p2.2 (R3.chg (t := .lst ts) ⟨⟨_, e3, .lst (b.mono x2)⟩, g3, n3, O.new⟩ nw3) (x1.trans x2) .non⟩
    | _ => exact (show False from p).elim) hX
def dTmpPop (f : DE) : DE := fun P X ev => f (fun t ev1 => match t with
  | .lst ts => ∃ y, ts[ts.length - 1]? = some y ∧ P y ev1
  | _ => False) X ev
theorem snd_tmpPop {to : TE} {f : DE} (h : SndN K mg E to f) : Snd K mg E (tBM0 K "list" rPop to) (dTmpPop f) := fun D as G ev σ H Q P X R hf hP hX =>
  h D as G ev σ H _ _ X R hf (fun r ev1 as1 G1 a H1 p R1 x1 O nw => by
    obtain ⟨o, e, ob⟩ := O.ob
    cases ob with
    | lst b =>
      rename_i ts vs
      obtain ⟨y, e4, p4⟩ := p
      obtain ⟨yv, e5, ty⟩ := b.get e4
      exact ⟨.inl ⟨rfl, vs, SqL.of e⟩, a, vs, yv, rfl, rfl, e, by rw [← b.length]; exact e5, hP _ ev1 as1 G1 _ _ p4 (R1.chg (t := .lst ts) O nw) x1 ty⟩
    | _ => exact (show False from p).elim) hX
/-- xs[i] = t -/
def dgSub (o f : DO) : DG := fun t P X ev => o (fun x ev1 => f (fun y ev2 => vw ev2 y fun i => match i with
  | .int i => upto ev2 x fun c up => match c with
    | .lst ts => ∃ j, ixN ts.length i = some j ∧ P (up (.lst (ts.set j t)))
    | _ => False
  | _ => False) X ev1) X ev
theorem snd_gSub {to ti : TE} {o f : DO} (h : SndO K mg E to o) (k : SndO K mg E ti f) : SndG K mg E (gSub to ti rSetL) (dgSub o f) := fun D as G ev σ H t v P X Z R tv hf hP hX =>
  h D as G ev σ H _ _ X R hf (fun x ev1 as1 G1 vx H1 p R1 x1 tx => k D as1 G1 ev1 σ H1 _ _ X R1 p (fun y ev2 as2 G2 w H2 p2 R2 x2 ty => by
    obtain ⟨i, _, hi, p3⟩ := vw_ok R2 ty p2
    cases i with
    | int i =>
      cases (show w = .int i from hi)
      obtain ⟨a, c, ho, up, rfl, e, ob, p4, u⟩ := upto_ok R2 (tx.mono x2) p3
      cases ob with
      | lst b =>
        obtain ⟨j, e3, p5⟩ := p4
        exact ⟨a, _, i, j, rfl, rfl, e, by rw [← b.length]; exact e3, hP _ as2 G2 σ _ p5 (u _ _ (.lst (TVs.set (tv.mono (x1.trans x2)) j b))) (x1.trans x2)⟩
      | _ => exact (show False from p4).elim
    | _ => exact (show False from p3).elim) ((hX σ).ext x1)) (hX σ)
/-! ## dicts -/
/-- d[k] = t -/
def dDPut (f : DE) (o k : DO) : DS := fun P ev => f (fun t ev1 => o (fun x ev2 => k (fun y ev3 => vw ev3 y fun kt => ∃ kk, toKey kt = some kk ∧ upto ev3 x fun c up => match c with
  | .dct kts => kts.length < sizeLine ∧ P.nx (up (.dct (putT kts kk t)))
  | _ => False) P.ex ev2) P.ex ev1) P.ex ev
theorem snd_dput {te to tk : TE} {f : DE} {o k : DO} (hf : Snd K mg E te f) (ho : SndO K mg E to o) (hk : SndO K mg E tk k) : SndS K mg E (sDPut to tk te) (dDPut f o k) := fun D as G ev σ H Dn P R h F =>
  hf D as G ev σ H _ _ P.ex R h (fun t ev1 as1 G1 v H1 p R1 x1 tv => ho D as1 G1 ev1 σ H1 _ _ P.ex R1 p (fun x ev2 as2 G2 vx H2 p2 R2 x2 tx => hk D as2 G2 ev2 σ H2 _ _ P.ex R2 p2 (fun y ev3 as3 G3 w H3 p3 R3 x3 ty => by
    obtain ⟨kt, _, hi, kk, ek, p4⟩ := vw_ok R3 ty p3
    have := hi.key ek
    subst this
    obtain ⟨a, c, ho, up, rfl, e, ob, p5, u⟩ := upto_ok R3 (tx.mono x3) p4
    cases ob with
    | dct n b =>
      have tk0 : TKs K mg as3 G3 _ _ := ⟨n, b⟩
      have tk1 := tk0.put kk (tv.mono (x2.trans x3))
      exact ⟨a, _, rfl, DPut.k e (by rw [← tk0.length]; exact p5.1), F.nx _ as3 G3 σ _ p5.2 (u _ _ (.dct tk1.1 tk1.2)) ((x1.trans x2).trans x3)⟩
    | _ => exact (show False from p5).elim) ((F.px σ).ext (x1.trans x2))) ((F.px σ).ext x1)) (F.px σ)
def dropT (kts : List (Key × T)) (k : Key) : List (Key × T) := kts.filter fun kv => decide (kv.1 ≠ k)
theorem drop_tk {as : List Addr} {G : Hp} (k : Key) : ∀ {kts : List (Key × T)} {kvs : List (Key × V)}, TKs K mg as G kts kvs → TKs K mg as G (dropT kts k) (dropK kvs k)
  | [], kvs, h => by have := h.length; cases kvs with
    | nil => exact ⟨rfl, .nil⟩
    | cons _ _ => simp at this
  | p :: kts, kvs, h => by
    obtain ⟨q, rs, rfl, e, a, hr⟩ := h.cons'
    have ih := drop_tk k hr
    unfold dropT dropK at ih ⊢
    rw [List.filter_cons, List.filter_cons, e]
    by_cases z : q.1 = k
    · rw [if_neg (by simp [z]), if_neg (by simp [z])]; exact ih
    · rw [if_pos (by simp [z]), if_pos (by simp [z])]
      exact ⟨by rw [List.map_cons, List.map_cons, e, ih.1], .cons a ih.2⟩
/-- d.pop(k), k there -/
def dDPop1 (o : DO) (k : DO) : DE := fun P X ev => o (fun x ev1 => (match look ev1 x with
  | some (.dct _) => k (fun y ev2 => vw ev2 y fun kt => ∃ kk, toKey kt = some kk ∧ upto ev2 x fun c up => match c with
    | .dct kts => ∃ t, valT kts kk = some t ∧ P t (up (.dct (dropT kts kk)))
    | _ => False) X ev1
  | _ => False)) X ev
theorem snd_dpop1 {to tk : TE} {o k : DO} (ho : SndO K mg E to o) (hk : SndO K mg E tk k) : Snd K mg E (tDPop1 to tk) (dDPop1 o k) := fun D as G ev σ H Q P X R hf hP hX =>
  ho D as G ev σ H _ _ X R hf (fun x ev1 as1 G1 vx H1 p R1 x1 tx => by
    split at p
    · rename_i kts0 e0
      obtain ⟨a0, kvs0, rfl, hr0, _⟩ := look_ok R1 tx e0
      refine ⟨a0, rfl, .inl ⟨kvs0, hr0⟩, hk D as1 G1 ev1 σ H1 _ _ X R1 p (fun y ev2 as2 G2 w H2 p2 R2 x2 ty => ?_) (hX.ext x1)⟩
      obtain ⟨kt, _, hi, kk, ek, p4⟩ := vw_ok R2 ty p2
      have := hi.key ek
      subst this
      obtain ⟨a, c, ho, up, ea, e, ob, p5, u⟩ := upto_ok R2 (tx.mono x2) p4
      cases ea
      cases ob with
      | dct n b =>
        obtain ⟨t, et, p6⟩ := p5
        have tk0 : TKs K mg as2 G2 _ _ := ⟨n, b⟩
        rcases tk0.val kk with ⟨z, _⟩ | ⟨t', v', z, z2, tv'⟩
        · rw [et] at z; cases z
        · rw [et] at z
          cases z
          have tk1 := drop_tk kk tk0
          exact ⟨_, kk, v', e, rfl, z2, hP _ _ as2 G2 _ _ p6 (u _ _ (.dct tk1.1 tk1.2)) (x1.trans x2) tv'⟩
      | _ => exact (show False from p5).elim
    · exact p.elim) hX
/-- a dict in a cell, locked while f runs -/
def tLk (t : TE) : TE := fun σ H Q => t σ H Q ∨ tLockE t σ H Q
theorem pe_lk {X : Cx} {e : Expr} {t : TE} (h : PE X e t) : PE X e (tLk t) := ⟨fun pins s σ H Q I q => q.elim (h.run pins s σ H Q I) ((pe_lock h).run pins s σ H Q I)⟩
def dLk (i : Nat) (f : DE) : DE := fun P X ev => match ev.env[i]? with
  | some (.fr (.cell c)) => (match ev.st[c]? with
    | some (false, .dct kts) => f (fun t ev1 => ev1.st[c]? = some (true, .dct kts) ∧ P t { ev1 with st := ev1.st.set c (false, .dct kts) }) X0 { ev with st := ev.st.set c (true, .dct kts) }
    | _ => False)
  | _ => f P X ev
theorem RelS.lock {as : List Addr} {G H : Hp} {st : List Cel} (R : RelS K mg as G st H) {c : Nat} {a : Addr} {l l' : Bool} {t : T} {o : HO} (e : st[c]? = some (l, t)) (ea : as[c]? = some a) (ob : Obj' K mg as G t o) {h : HO} (hh : Ats (upd H a h) l' a o) : RelS K mg as G (st.set c (l', t)) (upd H a h) := by
  have hk : c < st.length := (List.getElem?_eq_some_iff.mp e).1
  obtain ⟨g, _⟩ := R.cell c _ a e ea
  refine ⟨fun b x eb => by rw [upd_ne (ne_of_none eb g)]; exact R.sub b x eb, R.nd, by rw [List.length_set]; exact R.len, fun j d b hj hb => ?_⟩
  by_cases q : j = c
  · subst q
    rw [ea] at hb
    cases hb
    rw [List.getElem?_set_self hk] at hj
    cases hj
    exact ⟨g, o, ob, hh⟩
  · rw [List.getElem?_set_ne (fun z => q z.symm)] at hj
    obtain ⟨g2, x, hx, at_⟩ := R.cell j d b hj hb
    refine ⟨g2, x, hx, ?_⟩
    have nb : b ≠ a := fun z => by
      subst z
      obtain ⟨h1, e1⟩ := List.getElem?_eq_some_iff.mp ea
      obtain ⟨h2, e2⟩ := List.getElem?_eq_some_iff.mp hb
      exact q ((List.getElem_inj R.nd).mp (e2.trans e1.symm))
    unfold Ats at at_ ⊢
    rw [upd_ne nb]
    exact at_
theorem Rel.lock {D : En} {as : List Addr} {G H : Hp} {ev : Ev} {σ : L2.St} (R : Rel K mg D as G ev σ H) {c : Nat} {a : Addr} {l l' : Bool} {t : T} {o : HO} (e : ev.st[c]? = some (l, t)) (ea : as[c]? = some a) (ob : Obj' K mg as G t o) (nf : ∀ ob u, H a ≠ some (.frz ob u)) {h : HO} (hh : Ats (upd H a h) l' a o) : Rel K mg D as G { ev with st := ev.st.set c (l', t) } σ (upd H a h) := by
  have mem : a ∈ as := List.mem_of_getElem? ea
  refine ⟨R.s.lock e ea ob hh, R.c.trans (Chg.put mem nf), R.len, R.fr, fun i w e => ?_, R.sep⟩
  obtain ⟨b, h1, h2⟩ := R.ow i w e
  have nb : b ≠ a := fun z => h2.na (by rw [z]; exact mem)
  exact ⟨b, h1, h2.mono Ext.refl h2.g (upd_ne nb)⟩
/-- the same entry, the cells as they are now -/
def reEn (D : En) (as : List Addr) (H : Hp) : En := ⟨as, D.G, fun b => if b ∈ as then H b else D.H b⟩
theorem Rel.re {D : En} {as : List Addr} {G H : Hp} {ev : Ev} {σ : L2.St} (R : Rel K mg D as G ev σ H) : Rel K mg (reEn D as H) as G ev σ H := by
  have out : ∀ {b : Addr}, b ∉ as → (reEn D as H).H b = D.H b := fun n => if_neg n
  have inn : ∀ {b : Addr}, b ∈ as → (reEn D as H).H b = H b := fun n => if_pos n
  obtain ⟨m, e, hm⟩ := R.c.more
  refine ⟨R.s, ⟨⟨[], by simp [reEn]⟩, R.c.g, fun b hb => ?_, fun b o n e2 => ?_, fun b hb => ?_, fun b ob u e2 => ?_⟩, R.len, R.fr, fun i t e2 => ?_, R.sep⟩
  · rw [out fun z => hb (R.s.mem z).2]
    exact R.c.gn b hb
  · have n' : b ∉ as := n
    rw [out n'] at e2
    exact R.c.fr b o (fun z => n' (by rw [e]; exact List.mem_append_left _ z)) e2
  · rw [out fun z => (R.s.mem z).1 hb]
    exact R.c.keep b hb
  · by_cases z : b ∈ as
    · rw [inn z] at e2; exact e2
    · rw [out z] at e2; exact R.c.lk b ob u e2
  · obtain ⟨b, h1, h2⟩ := R.ow i t e2
    exact ⟨b, h1, h2.ob, h2.g, h2.na, by rw [out h2.na]; exact h2.new⟩
theorem Rel.unre {D : En} {as0 as : List Addr} {G0 G H0 H : Hp} {ev0 ev : Ev} {σ0 σ : L2.St} (R0 : Rel K mg D as0 G0 ev0 σ0 H0) (nf : ∀ b ob u, b ∈ as0 → D.H b = some (.frz ob u) → H0 b = some (.frz ob u)) (R : Rel K mg (reEn D as0 H0) as G ev σ H) : Rel K mg D as G ev σ H := by
  have out : ∀ {b : Addr}, b ∉ as0 → (reEn D as0 H0).H b = D.H b := fun n => if_neg n
  have inn : ∀ {b : Addr}, b ∈ as0 → (reEn D as0 H0).H b = H0 b := fun n => if_pos n
  have non : ∀ {b : Addr}, (reEn D as0 H0).H b = none → D.H b = none := fun {b} h => by
    by_cases z : b ∈ as0
    · rw [inn z] at h; exact absurd h (R0.s.mem z).1
    · rw [out z] at h; exact h
  obtain ⟨m, e, hm⟩ := R0.c.more
  obtain ⟨m2, e2, hm2⟩ := R.c.more
  have e2' : as = as0 ++ m2 := e2
  refine ⟨R.s, ⟨⟨m ++ m2, by rw [e2', e, List.append_assoc], fun b hb => ?_⟩, R.c.g, fun b hb => ?_, fun b o n e3 => ?_, fun b hb => non (R.c.keep b hb), fun b ob u e3 => R.c.lk b ob u ?_⟩, R.len, R.fr, fun i t e3 => ?_, R.sep⟩
  · rcases List.mem_append.mp hb with h | h
    · exact hm b h
    · exact non (hm2 b h)
  · rcases R.c.gn b hb with h | h
    · exact .inl h
    · exact .inr (non h)
  · have n' : b ∉ as0 := fun z => by
      rw [e] at z
      rcases List.mem_append.mp z with z | z
      · exact n z
      · have := hm b z; rw [e3] at this; cases this
    exact R.c.fr b o n' (by rw [out n']; exact e3)
  · by_cases z : b ∈ as0
    · rw [inn z]; exact nf b ob u z e3
    · rw [out z]; exact e3
  · obtain ⟨b, h1, h2⟩ := R.ow i t e3
    exact ⟨b, h1, h2.ob, h2.g, h2.na, non h2.new⟩
theorem snd_lk {i : Nat} {t : TE} {f : DE} (h : Snd K mg E t f) : Snd K mg E (tLk t) (dLk i f) := fun D as G ev σ H Q P X R hf hP hX => by
  unfold dLk at hf
  split at hf
  · rename_i c ec
    split at hf
    · rename_i kts es
      obtain ⟨w, h1, tv⟩ := R.fr i _ ec
      cases tv with
      | cell ea =>
        rename_i a
        obtain ⟨g, o, ob, at_⟩ := R.s.cell c _ a es ea
        have hH : H a = some o := by unfold Ats at at_; rw [if_neg (by simp)] at at_; exact at_
        have nfz : ∀ ob u, H a ≠ some (.frz ob u) := fun ob' u e => by
          rw [hH] at e
          cases e
          cases ob
        refine .inr ⟨a, o, hH, ob.mut, fun od => ?_⟩
        have mem : a ∈ as := List.mem_of_getElem? ea
        have R1 := R.lock (l' := true) (h := .frz od o) es ea ob nfz (by unfold Ats; rw [if_pos rfl]; exact ⟨od, upd_same⟩)
        have nf : ∀ b ob u, b ∈ as → D.H b = some (.frz ob u) → (upd H a (.frz od o)) b = some (.frz ob u) := fun b ob' u hb e => by
          have := R.c.lk b ob' u e
          rw [upd_ne (fun z => nfz ob' u (by rw [← z]; exact this))]
          exact this
        refine h (reEn D as (upd H a (.frz od o))) as G _ σ _ _ _ X0 R1.re hf (fun r ev1 as1 G1 v H1 ⟨e1, p⟩ R2 x tv1 => ?_) px0
        have ea1 : as1[c]? = some a := by obtain ⟨m, e⟩ := x.more; rw [e]; exact ext_get ea
        have fz : H1 a = some (.frz od o) := R2.c.lk a od o (by show (if a ∈ as then _ else _) = _; rw [if_pos mem]; exact upd_same)
        refine ⟨fz, ?_⟩
        -- unlocked again
        have R3 := Rel.unre R1 nf R2
        have mem1 : a ∈ as1 := List.mem_of_getElem? ea1
        have nD : ∀ ob u, D.H a ≠ some (.frz ob u) := fun ob' u e => nfz ob' u (R.c.lk a ob' u e)
        have RS := R3.s.lock (l' := false) (h := o) e1 ea1 (ob.mono x) (by unfold Ats; rw [if_neg (by simp)]; exact upd_same)
        refine hP r _ as1 G1 v _ p ⟨RS, ⟨R3.c.more, R3.c.g, R3.c.gn, fun b u n e => ?_, fun b hb => ?_, fun b ob' u e => ?_⟩, R3.len, R3.fr, fun j u e => ?_, R3.sep⟩ x tv1
        · by_cases z : b = a
          · subst z
            have := R3.c.fr b u n e
            rw [fz] at this
            cases this
            exact absurd e (nD _ _)
          · rw [upd_ne z]; exact R3.c.fr b u n e
        · by_cases z : b = a
          · rw [z, upd_same] at hb; cases hb
          · rw [upd_ne z] at hb; exact R3.c.keep b hb
        · rw [upd_ne (fun z => nD ob' u (by rw [← z]; exact e))]; exact R3.c.lk b ob' u e
        · obtain ⟨b, h2, h3⟩ := R3.ow j u e
          exact ⟨b, h2, h3.mono Ext.refl h3.g (upd_ne fun z => h3.na (by rw [z]; exact mem1))⟩
    · exact hf.elim
  · exact .inl (h D as G ev σ H Q P X R hf hP hX)
end
end Fu
set_option Elab.async false
set_option linter.all false
set_option maxRecDepth 100000
set_option maxHeartbeats 4000000
namespace Fu
open PySem PySem.Spec PyProof.Rows L2 Hv
/-! # attributes, texts put together, calls -/
section
variable {K : PySem.W.Frag} {mg : Str → Option Value} {E : L2.St → XK}
/-! ## attributes -/
theorem fs_lookup {as : List Addr} {G : Hp} (f : Str) : ∀ {fts : List (Str × T)} {fs : List (Str × V)}, fts.map (·.1) = fs.map (·.1) → TVs K mg as G (fts.map (·.2)) (fs.map (·.2)) → (fts.lookup f = none ∧ fs.lookup f = none) ∨ ∃ t v, fts.lookup f = some t ∧ fs.lookup f = some v ∧ TV K mg as G t v ∧ (f, v) ∈ fs
  | [], [], _, _ => .inl ⟨rfl, rfl⟩
  | [], _ :: _, h, _ => by simp at h
  | _ :: _, [], h, _ => by simp at h
  | (g, t) :: fts, (g2, v) :: fs, h, b => by
    have e := List.cons.inj h
    have e1 : g = g2 := e.1
    subst e1
    obtain ⟨v1, us, e2, tv, b2⟩ := b.cons'
    cases e2
    by_cases z : f = g
    · subst z
      have hb : (f == f) = true := beq_self_eq_true f
      exact .inr ⟨t, v, by simp [List.lookup, hb], by simp [List.lookup, hb], tv, List.mem_cons_self⟩
    · have hb : (f == g) = false := beq_eq_false_iff_ne.mpr z
      rcases fs_lookup f e.2 b2 with ⟨h1, h2⟩ | ⟨t', v', h1, h2, h3, h4⟩
      · exact .inl ⟨by simp [List.lookup, hb, h1], by simp [List.lookup, hb, h2]⟩
      · exact .inr ⟨t', v', by simp [List.lookup, hb, h1], by simp [List.lookup, hb, h2], h3, List.mem_cons_of_mem _ h4⟩
def dFld (f : Str) (o : DO) : DE := fun P X ev => o (fun x ev1 => vw ev1 x fun t => match t with
  | .ins _ fts => ∃ u, fts.lookup f = some u ∧ P u ev1
  | _ => False) X ev
theorem snd_fld {f : Str} {t : TE} {o : DO} (h : SndO K mg E t o) : Snd K mg E (tFld K t f) (dFld f o) := fun D as G ev σ H Q P X R hf hP hX =>
  h D as G ev σ H _ _ X R hf (fun x ev1 as1 G1 v H1 p R1 x1 tv => by
    obtain ⟨t, _, h1, p⟩ := vw_ok R1 tv p
    cases t with
    | ins c fts =>
      obtain ⟨u, e, p⟩ := p
      obtain ⟨a, C, dx, fs, rfl, m, ci, e2, n, b⟩ := h1
      rcases fs_lookup f n b with ⟨z, _⟩ | ⟨t', v', z, z2, tv', mem⟩
      · rw [e] at z; cases z
      · rw [e] at z
        cases z
        exact ⟨a, C, dx, fs, v', rfl, e2, ci.cls, ci.no _ mem, z2, hP _ ev1 as1 G1 _ H1 p R1 x1 tv'⟩
    | _ => exact (show False from p).elim) hX
/-- the attributes that instances of a class get -/
structure FlF (K : PySem.W.Frag) (mg : Str → Option Value) (q : Str → List Str) : Prop where
  ok : ∀ c C f, mg c = some (.ref C) → f ∈ q c → NoAttr K C f
def putFT (f : Str) (v : T) : List (Str × T) → List (Str × T)
  | [] => [(f, v)]
  | (g, x) :: r => if g = f then (g, v) :: r else (g, x) :: putFT f v r
theorem putF_tv {as : List Addr} {G : Hp} {f : Str} {t : T} {v : V} (tv : TV K mg as G t v) : ∀ {fts : List (Str × T)} {fs : List (Str × V)}, fts.map (·.1) = fs.map (·.1) → TVs K mg as G (fts.map (·.2)) (fs.map (·.2)) → (putFT f t fts).map (·.1) = (putF f v fs).map (·.1) ∧ TVs K mg as G ((putFT f t fts).map (·.2)) ((putF f v fs).map (·.2))
  | [], [], _, _ => ⟨rfl, .cons tv .nil⟩
  | [], _ :: _, h, _ => by simp at h
  | _ :: _, [], h, _ => by simp at h
  | (g, t0) :: fts, (g2, v0) :: fs, h, b => by
    have e := List.cons.inj h
    have e1 : g = g2 := e.1
    subst e1
    obtain ⟨v1, us, e2, tv0, b2⟩ := b.cons'
    cases e2
    unfold putFT putF
    by_cases z : g = f
    · rw [if_pos z, if_pos z]
      exact ⟨h, .cons tv b2⟩
    · rw [if_neg z, if_neg z]
      obtain ⟨h1, h2⟩ := putF_tv tv e.2 b2
      exact ⟨by simp only [List.map_cons]; rw [h1], .cons tv0 h2⟩
theorem putF_no {C : Addr} {f : Str} {v : V} (n : NoAttr K C f) : ∀ {fs : List (Str × V)}, (∀ p ∈ fs, NoAttr K C p.1) → ∀ p ∈ putF f v fs, NoAttr K C p.1
  | [], _, p, hp => by
    rw [show putF f v [] = [(f, v)] from rfl, List.mem_singleton] at hp
    rw [hp]; exact n
  | (g, x) :: fs, h, p, hp => by
    unfold putF at hp
    split at hp
    · rename_i z
      rcases List.mem_cons.mp hp with e | e
      · rw [e]; exact h (g, x) List.mem_cons_self
      · exact h _ (List.mem_cons_of_mem _ e)
    · rcases List.mem_cons.mp hp with e | e
      · rw [e]; exact h _ List.mem_cons_self
      · exact putF_no n (fun p hp => h p (List.mem_cons_of_mem _ hp)) p e
/-- o.f = value -/
def dSFld (q : Str → List Str) (f : Str) (g : DE) (o : DO) : DS := fun P ev => g (fun t ev1 => o (fun x ev2 => upto ev2 x fun c up => match c with
  | .ins cn fts => fts.length < 1000 ∧ f ∈ q cn ∧ P.nx (up (.ins cn (putFT f t fts)))
  | _ => False) P.ex ev1) P.ex ev
theorem snd_sfld {q : Str → List Str} (Q : FlF K mg q) {f : Str} {to te : TE} {g : DE} {o : DO} (hg : Snd K mg E te g) (ho : SndO K mg E to o) : SndS K mg E (sFld K to te f) (dSFld q f g o) := fun D as G ev σ H Dn P R h F =>
  hg D as G ev σ H _ _ P.ex R h (fun t ev1 as1 G1 v H1 p R1 x1 tv => ho D as1 G1 ev1 σ H1 _ _ P.ex R1 p (fun x ev2 as2 G2 vx H2 p2 R2 x2 tx => by
    obtain ⟨a, c, ho, up, rfl, e, ob, p5, u⟩ := upto_ok R2 tx p2
    cases ob with
    | ins m ci n b =>
      rename_i C dx cn fs fts
      have na := Q.ok _ _ _ m p5.2.1
      obtain ⟨n1, b1⟩ := putF_tv (f := f) (tv.mono x2) n b
      have hl : fts.length = fs.length := by have := congrArg List.length n; simpa using this
      exact ⟨a, C, dx, fs, rfl, e, ci.cls, na, by rw [← hl]; exact p5.1, F.nx _ as2 G2 σ _ p5.2.2 (u _ _ (.ins m ⟨ci.cls, putF_no na ci.no, ci.ha, ci.hn, ci.ht, ci.hm⟩ n1 b1)) (x1.trans x2)⟩
    | _ => exact (show False from p5).elim) ((F.px σ).ext x1)) (F.px σ)
/-- constants of classes -/
structure CoF (K : PySem.W.Frag) (mg : Str → Option Value) (q : Str → Str → Option T) : Prop where
  ok : ∀ c C f t, mg c = some (.ref C) → q c f = some t → ∃ v u, Con K C f v u ∧ ∀ as G, TV K mg as G t v
def dCon (q : Str → Str → Option T) (f : Str) (o : DO) : DE := fun P X ev => o (fun x ev1 => vw ev1 x fun t => match t with
  | .ins c _ => ∃ u, q c f = some u ∧ P u ev1
  | _ => False) X ev
theorem snd_con {q : Str → Str → Option T} (Q : CoF K mg q) {f : Str} {t : TE} {o : DO} (h : SndO K mg E t o) : Snd K mg E (tCon K t f) (dCon q f o) := fun D as G ev σ H Qk P X R hf hP hX =>
  h D as G ev σ H _ _ X R hf (fun x ev1 as1 G1 v H1 p R1 x1 tv => by
    obtain ⟨t, _, h1, p⟩ := vw_ok R1 tv p
    cases t with
    | ins c fts =>
      obtain ⟨u, e, p⟩ := p
      obtain ⟨a, C, dx, fs, rfl, m, ci, e2, n, b⟩ := h1
      obtain ⟨cv, cu, con, tvc⟩ := Q.ok _ _ _ _ m e
      have no : fs.lookup f = none := by
        rcases fs_lookup f n b with ⟨_, z⟩ | ⟨t', v', _, _, _, mem⟩
        · exact z
        · have z1 := ci.no _ mem
          have z2 : PySem.W.findIn K (.ref C) f = some none := z1
          rw [con.at_] at z2
          cases z2
      exact ⟨a, C, dx, fs, cv, cu, rfl, e2, ci.cls, con, no, hP _ ev1 as1 G1 _ H1 p R1 x1 (tvc _ _)⟩
    | _ => exact (show False from p).elim) hX
/-! ## texts put together -/
def dFmt (o : DO) : DE := fun P X ev => o (fun x ev1 => vw ev1 x fun t => match t with
  | .str y => y.length ≤ sizeLine ∧ P (.str y) ev1
  | .int i => i.natAbs.log2 < 1920 ∧ P (.str (toString i)) ev1
  | _ => False) X ev
theorem snd_fmt {t : TE} {o : DO} (h : SndO K mg E t o) : Snd K mg E (tFmt t) (dFmt o) := fun D as G ev σ H Q P X R hf hP hX =>
  h D as G ev σ H _ _ X R hf (fun x ev1 as1 G1 v H1 p R1 x1 tv => by
    obtain ⟨t, _, h1, p⟩ := vw_ok R1 tv p
    cases t with
    | str y => cases (show v = .str y from h1); exact .inl ⟨y, rfl, p.1, hP _ ev1 as1 G1 _ H1 p.2 R1 x1 (.str _)⟩
    | int i => cases (show v = .int i from h1); exact .inr ⟨i, rfl, p.1, hP _ ev1 as1 G1 _ H1 p.2 R1 x1 (.str _)⟩
    | _ => exact (show False from p).elim) hX
def dJs : List DE → Str → (Str → Ev → Prop) → DX → Ev → Prop
  | [], acc, P, _, ev => P acc ev
  | f :: fs, acc, P, X, ev => f (fun t ev1 => match t with
    | .str y => (acc ++ y).length ≤ sizeLine ∧ dJs fs (acc ++ y) P X ev1
    | _ => False) X ev
def dFstr (fs : List DE) : DE := fun P X ev => dJs fs Str.empty (fun out ev1 => P (.str out) ev1) X ev
inductive SndJ (K : PySem.W.Frag) (mg : Str → Option Value) (E : L2.St → XK) : List TE → List DE → Prop
  | nil : SndJ K mg E [] []
  | cons {t : TE} {f : DE} {ts : List TE} {fs : List DE} : Snd K mg E t f → SndJ K mg E ts fs → SndJ K mg E (t :: ts) (f :: fs)
theorem js_ok {D : En} {σ : L2.St} {X : DX} : ∀ {ts : List TE} {fs : List DE} {acc : Str} {as : List Addr} {G : Hp} {ev : Ev} {H : Hp} {P : Str → Ev → Prop} {Q : Str → Hp → Prop}, SndJ K mg E ts fs → Rel K mg D as G ev σ H → dJs fs acc P X ev →
    (∀ out ev' as' G' H', P out ev' → Rel K mg D as' G' ev' σ H' → Ext as G as' G' → Q out H') → PX K mg E D as G σ X → tJs ts acc σ H Q
  | [], _, acc, as, G, ev, H, P, Q, .nil, R, h, hP, _ => hP _ ev as G H h R Ext.refl
  | t :: ts, _, acc, as, G, ev, H, P, Q, .cons s r, R, h, hP, hX => s D as G ev σ H _ _ X R h (fun u ev1 as1 G1 v H1 p R1 x1 tv => by
      cases tv with
      | str y => exact ⟨y, rfl, p.1, js_ok r R1 p.2 (fun out ev' as' G' H' a b c => hP out ev' as' G' H' a b (x1.trans c)) (hX.ext x1)⟩
      | _ => exact (show False from p).elim) hX
theorem snd_fstr {ts : List TE} {fs : List DE} (h : SndJ K mg E ts fs) : Snd K mg E (fun σ H Q => tJs ts Str.empty σ H fun out H1 => Q (.str out) H1) (dFstr fs) := fun D as G ev σ H Q P X R hf hP hX =>
  js_ok h R hf (fun out ev' as' G' H' a b c => hP _ ev' as' G' _ H' a b c (.str _)) hX
/-- sep.join(xs) -/
def rJoin (K : PySem.W.Frag) : V → List V → Hp → VK → Prop := fun x xs H Q => ∃ a p, ∃ ys : List Str, x = .str a ∧ xs = [.ref p] ∧ (SqL K H p (ys.map V.str) ∨ SqT K H p (ys.map V.str)) ∧ (ys.map (·.length)).sum + ys.length * a.length ≤ 16777216 ∧ Q (.str (Txt.join a ys)) H
theorem pe_joinK {X : Cx} (hK : X.K = K) {o e : Expr} {to te : TE} {apos pos : Pos} (ho : PE X o to) (he : PE X e te) (hs : starEach [e] X.env = [(false, eval e X.env)] := by rfl) (hbase : attributeBase o "join" X.env (eval o X.env) = eval o X.env := by rfl) (hline : (apos.endLine == pos.line) = true := by rfl) :
    PE X (.Call (.Attribute o "join" apos) [e] [] pos) (tM1 (rJoin K) to te) := by
  subst hK
  exact pe_join ho he hs hbase hline
def dJoin (f : DE) (g : DO) : DE := fun P X ev => f (fun t ev1 => match t with
  | .str a => g (fun x ev2 => vw ev2 x fun u => match u with
    | .lst us => ∃ ys, toSs us = some ys ∧ (ys.map (·.length)).sum + ys.length * a.length ≤ 16777216 ∧ P (.str (Txt.join a ys)) ev2
    | .tup us => ∃ ys, toSs us = some ys ∧ (ys.map (·.length)).sum + ys.length * a.length ≤ 16777216 ∧ P (.str (Txt.join a ys)) ev2
    | _ => False) X ev1
  | _ => False) X ev
theorem snd_join {to te : TE} {f : DE} {g : DO} (h : Snd K mg E to f) (k : SndO K mg E te g) : Snd K mg E (tM1 (rJoin K) to te) (dJoin f g) := fun D as G ev σ H Q P X R hf hP hX =>
  h D as G ev σ H _ _ X R hf (fun t ev1 as1 G1 v H1 p R1 x1 tv => by
    cases tv with
    | str a =>
      refine ⟨⟨a, rfl⟩, k D as1 G1 ev1 σ H1 _ _ X R1 p (fun x ev2 as2 G2 w H2 p2 R2 x2 tw => ?_) (hX.ext x1)⟩
      obtain ⟨u, _, h1, p3⟩ := vw_ok R2 tw p2
      cases u with
      | lst us =>
        obtain ⟨ys, e, hl, p4⟩ := p3
        obtain ⟨b, vs, rfl, e1, tvs⟩ := h1
        have := ss_tv tvs e
        subst this
        exact ⟨a, b, ys, rfl, rfl, .inl (SqL.of e1), hl, hP _ ev2 as2 G2 _ H2 p4 R2 (x1.trans x2) (.str _)⟩
      | tup us =>
        obtain ⟨ys, e, hl, p4⟩ := p3
        obtain ⟨b, vs, rfl, e1, tvs⟩ := h1
        have := ss_tv tvs e
        subst this
        exact ⟨a, b, ys, rfl, rfl, .inr (SqT.le R2.s.sub e1), hl, hP _ ev2 as2 G2 _ H2 p4 R2 (x1.trans x2) (.str _)⟩
      | _ => exact (show False from p3).elim
    | _ => exact (show False from p).elim) hX
/-! ## calls of own defs -/
abbrev Store := List Cel
abbrev SpecT := List T → Store → (Rt → Store → Prop) → (Exn → Store → Prop) → Prop
/-- what is handed back, for the caller: ahead of the call the heap was H -/
def RC (K : PySem.W.Frag) (mg : Str → Option Value) (as : List Addr) (G H H' : Hp) : Rt → V → Prop
  | .fr t, v => TV K mg as G t v
  | .ow t, v => ∃ a, v = .ref a ∧ (∃ o, H' a = some o ∧ Obj' K mg as G t o) ∧ G a = none ∧ a ∉ as ∧ H a = none
/-- a promise over trees -/
def spF (K : PySem.W.Frag) (mg : Str → Option Value) (n : Nat) (S : SpecT) : Sp := fun vs H Q E => ∃ as G ts st P X, ts.length = n ∧ RelS K mg as G st H ∧ TVs K mg as G ts vs ∧ S ts st P X ∧
  (∀ r st' as' G' v H', P r st' → RelS K mg as' G' st' H' → Chg as G H as' G' H' → RC K mg as' G' H H' r v → Q v H') ∧
  (∀ x st' as' G' c oa H', X x st' → RelS K mg as' G' st' H' → Chg as G H as' G' H' → XV K mg G' as' x c oa → E c oa H')
theorem spF.len {n : Nat} {S : SpecT} {vs : List V} {H : Hp} {Q : VK} {E : XK} (h : spF K mg n S vs H Q E) : vs.length = n := by
  obtain ⟨as, G, ts, st, P, X, h1, _, h2, _⟩ := h
  rw [← h2.length, h1]
theorem spF.imp {n : Nat} {S S' : SpecT} (h : ∀ ts st P X, S' ts st P X → S ts st P X) {vs : List V} {H : Hp} {Q : VK} {E : XK} (q : spF K mg n S' vs H Q E) : spF K mg n S vs H Q E := by
  obtain ⟨as, G, ts, st, P, X, h1, h2, h3, h4, h5⟩ := q
  exact ⟨as, G, ts, st, P, X, h1, h2, h3, h _ _ _ _ h4, h5⟩
def startE (n : Nat) (ts : List T) : List Sl := ts.map Sl.fr ++ List.replicate (n - ts.length) Sl.no
/-- a def's body, as a promise -/
def bodyS (n : Nat) (f : DS) : SpecT := fun ts st P X => f { nx := fun ev => P (.fr .non) ev.st, rt := fun r ev => P r ev.st, ex := fun x ev => X x ev.st } ⟨startE n ts, st⟩
theorem start_rel {as : List Addr} {G H : Hp} {st : Store} {ts : List T} {vs : List V} {N : List Str} (R : RelS K mg as G st H) (tv : TVs K mg as G ts vs) : Rel K mg ⟨as, G, H⟩ as G ⟨startE N.length ts, st⟩ (L2.start N vs) H := by
  have hl := tv.length
  have no : ∀ (i : Nat) (t : T), (startE N.length ts)[i]? ≠ some (.ow t) := fun i t e => by
    unfold startE at e
    rcases List.getElem?_append (l₁ := ts.map Sl.fr) (l₂ := List.replicate (N.length - ts.length) Sl.no) (i := i) ▸ e with e
    split at e
    · rw [List.getElem?_map] at e
      cases q : ts[i]? with
      | none => rw [q] at e; cases e
      | some u => rw [q] at e; cases e
    · have := List.eq_of_mem_replicate (List.mem_of_getElem? e)
      cases this
  refine ⟨R, Chg.refl, ?_, fun i t e => ?_, fun i t e => absurd e (no i t), fun i j t u a e => absurd e (no i t)⟩
  · simp [startE, L2.start, hl]
  · unfold startE at e
    rw [List.getElem?_append] at e
    split at e
    · rename_i hi
      rw [List.getElem?_map] at e
      cases q : ts[i]? with
      | none => rw [q] at e; cases e
      | some u =>
        rw [q] at e
        cases e
        obtain ⟨v, h1, h2⟩ := tv.get q
        refine ⟨v, ?_, h2⟩
        unfold L2.start
        have hi' : i < vs.length := (List.getElem?_eq_some_iff.mp h1).1
        rw [List.getElem?_append_left (by rw [List.length_map]; exact hi'), List.getElem?_map, h1]
        rfl
    · have := List.eq_of_mem_replicate (List.mem_of_getElem? e)
      cases this
/-- a body's reading keeps the promise of its tree -/
theorem body_ok {N : List Str} {n : Nat} {Ek : XK} {t : TS} {f : DS} (h : SndS K mg (fun _ => Ek) t f) {vs : List V} {H : Hp} {Q : VK} (q : spF K mg n (bodyS N.length f) vs H Q Ek) : t { nx := fun _ G => Q .non G, rt := Q } (L2.start N vs) H := by
  obtain ⟨as, G, ts, st, P, X, h1, R, tv, S, k1, k2⟩ := q
  refine h ⟨as, G, H⟩ as G _ _ H _ _ (start_rel R tv) S ⟨fun ev as' G' σ' H' p R' x => k1 _ _ as' G' _ H' p R'.s R'.c .non, fun _ _ _ _ _ z => z.elim, fun _ _ _ _ _ z => z.elim, fun r ev as' G' σ' v H' p R' x rv => k1 r _ as' G' v H' p R'.s R'.c ?_, fun x ev as' G' σ' c oa H' p R' y xv => k2 x _ as' G' c oa H' p R'.s R'.c xv⟩
  cases r with
  | fr t => exact rv
  | ow t =>
    obtain ⟨a, rfl, O⟩ := rv
    exact ⟨a, rfl, O.ob, O.g, O.na, O.new⟩
/-- f(..) -/
def dCallF (n : Nat) (S : SpecT) (a : DA) : DE := fun P X ev => a (fun ts ev1 => ts.length = n ∧ S ts ev1.st (fun r st' => match r with
  | .fr t => P t { ev1 with st := st' }
  | .ow t => P t { ev1 with st := st' }) fun x st' => X x { ev1 with st := st' }) X ev
theorem snd_callF {n : Nat} {S : SpecT} {t : TA} {a : DA} (h : SndA K mg E t a) : Snd K mg E (tFz (tCallS (spF K mg n S) E t)) (dCallF n S a) := fun D as G ev σ H Q P X R hf hP hX =>
  h D as G ev σ H _ _ X R hf (fun ts ev1 as1 G1 vs H1 ⟨hl, p⟩ R1 x1 tv => by
    refine ⟨as1, G1, ts, ev1.st, _, _, hl, R1.s, tv, p, fun r st' as' G' v H' q R' c rc => ?_, fun x st' as' G' c oa H' q R' ch xv => hX x _ as' G' c oa H' q (R1.call R' ch) (x1.trans ch.ext) xv⟩
    have R2 := R1.call R' c
    cases r with
    | fr t => exact .inl (hP t _ as' G' v H' q R2 (x1.trans c.ext) rc)
    | ow t =>
      obtain ⟨b, rfl, ob, gb, nb, hb⟩ := rc
      exact own_stay R2 ⟨ob, gb, nb, R1.c.keep b hb⟩ (fun ⟨i, u, e1, e2⟩ => R1.notOw hb ⟨i, u, e1, e2⟩) fun G2 H2 R3 x3 tv3 => hP t _ as' G2 _ H2 q R3 ((x1.trans c.ext).trans x3) tv3) hX
/-- .. a new object -/
def dCallO (n : Nat) (S : SpecT) (a : DA) : DE := fun P X ev => a (fun ts ev1 => ts.length = n ∧ S ts ev1.st (fun r st' => match r with
  | .ow t => P t { ev1 with st := st' }
  | _ => False) fun x st' => X x { ev1 with st := st' }) X ev
theorem snd_callO {n : Nat} {S : SpecT} {t : TA} {a : DA} (h : SndA K mg E t a) : SndN K mg E (tCallS (spF K mg n S) E t) (dCallO n S a) := fun D as G ev σ H Q P X R hf hP hX =>
  h D as G ev σ H _ _ X R hf (fun ts ev1 as1 G1 vs H1 ⟨hl, p⟩ R1 x1 tv => by
    refine ⟨as1, G1, ts, ev1.st, _, _, hl, R1.s, tv, p, fun r st' as' G' v H' q R' c rc => ?_, fun x st' as' G' c oa H' q R' ch xv => hX x _ as' G' c oa H' q (R1.call R' ch) (x1.trans ch.ext) xv⟩
    have R2 := R1.call R' c
    cases r with
    | fr t => exact (show False from q).elim
    | ow t =>
      obtain ⟨b, rfl, ob, gb, nb, hb⟩ := rc
      exact hP t _ as' G' b H' q R2 (x1.trans c.ext) ⟨ob, gb, nb, R1.c.keep b hb⟩ fun ⟨i, u, e1, e2⟩ => R1.notOw hb ⟨i, u, e1, e2⟩) hX
end
end Fu
set_option Elab.async false
set_option linter.all false
set_option maxRecDepth 100000
set_option maxHeartbeats 4000000
namespace Fu
open PySem PySem.Spec PyProof.Rows L2 Hv
/-! # defs, methods, makings, own operators, exceptions that are raised -/
section
variable {P : Program} {w : World} {K : PySem.W.Frag} {mg : Str → Option Value} {base : Heap} {k : Nat}
/-- a def of the top keeps the promise of its body's tree -/
theorem def_ok {x : Str} {st : Stmt} {ps N : List Str} {f : DS} (D : TopDef K mg x st ps) (S : FnScope N ps (defScope st))
    (hb : ∀ (fa : Addr) (cd : Value) (A : Around) (up : List Env) (s : Shared) (H : Hp) (Ek : XK), Room k (A.deeper (envOfC x (defScope st) s.heap.objs.size fa cd)) → (A.deeper (envOfC x (defScope st) s.heap.objs.size fa cd)).guards = some [] →
      ∃ t, PSs (cxOf (L2.CX P w) P w K mg base N x (defScope st) fa cd A up s H Ek) (defBody st) t ∧ SndS K mg (fun _ => Ek) t f) :
    Cal P w K mg base (k + 1) x ps (spF K mg ps.length (bodyS N.length f)) :=
  D.cal S (fun vs H Q E h => spF.len h) fun fa cd A up s H vs Q E hr hG h => by
    obtain ⟨t, h1, h2⟩ := hb fa cd A up s H E hr hG
    exact ⟨t, h1, body_ok h2 h⟩
theorem _root_.Hv.Cal.imp {x : Str} {ps : List Str} {sp sp' : Sp} (c : Cal P w K mg base k x ps sp) (h : ∀ vs H Q E, sp' vs H Q E → sp vs H Q E) : Cal P w K mg base k x ps sp' := by
  obtain ⟨f, fd, m, kp, b, F⟩ := c.ex
  exact ⟨f, fd, m, kp, b, fun vs H Q E q => F.len vs H Q E (h _ _ _ _ q), fun A up s H ar us vs Q E hr hG e0 bt rv hs => F.go A up s H ar us vs Q E hr hG e0 bt rv (h _ _ _ _ hs)⟩
theorem _root_.Hv.Cal.impF {x : Str} {ps : List Str} {n : Nat} {S S' : SpecT} (c : Cal P w K mg base k x ps (spF K mg n S)) (h : ∀ ts st P X, S' ts st P X → S ts st P X) : Cal P w K mg base k x ps (spF K mg n S') :=
  c.imp fun _ _ _ _ q => spF.imp h q
/-! ## methods -/
/-- the method m of the class named c, of the text st -/
structure MetDef (K : PySem.W.Frag) (mg : Str → Option Value) (c m qual : Str) (st : Stmt) (ps : List Str) : Prop where
  ex : ∃ (C f : Addr) (fd : FuncData), mg c = some (.ref C) ∧ Cls K C ∧ Meth K C m f ∧ Fun K m qual st f fd ∧ Binds K fd ps []
/-- at f: the def fd -/
def LkF (K : PySem.W.Frag) (f : Addr) (fd : FuncData) : Prop := ∃ (oc : Value) (od : Option Addr) (osl : Array (Option Value)), K.lookup f = some ⟨oc, od, .func fd, osl⟩
theorem _root_.L2.Fun.lkf {x qual : Str} {st : Stmt} {f : Addr} {fd : FuncData} (F : Fun K x qual st f fd) : LkF K f fd := by
  obtain ⟨oc, od, kV, doc, pm, an, cdv, ct, osl, rfl, lk, _⟩ := F.ex
  exact ⟨_, _, _, lk⟩
theorem LkF.same {f : Addr} {fd fd' : FuncData} (a : LkF K f fd) (b : LkF K f fd') : fd = fd' := by
  obtain ⟨_, _, _, h⟩ := a
  obtain ⟨_, _, _, h'⟩ := b
  rw [h] at h'
  cases h'
  rfl
structure MCal (P : Program) (w : World) (K : PySem.W.Frag) (mg : Str → Option Value) (base : Heap) (k : Nat) (c m : Str) (ps : List Str) (sp : Sp) : Prop where
  ex : ∃ (C f : Addr) (fd : FuncData), mg c = some (.ref C) ∧ Cls K C ∧ Meth K C m f ∧ LkF K f fd ∧ Binds K fd ps [] ∧ FnG P w K mg base k f fd ps sp
theorem met_ok {c m qual : Str} {st : Stmt} {ps N : List Str} {f : DS} (D : MetDef K mg c m qual st ps) (S : FnScope N ps (defScope st))
    (hb : ∀ (fa : Addr) (cd : Value) (A : Around) (up : List Env) (s : Shared) (H : Hp) (Ek : XK), Room k (A.deeper (envOfC qual (defScope st) s.heap.objs.size fa cd)) → (A.deeper (envOfC qual (defScope st) s.heap.objs.size fa cd)).guards = some [] →
      ∃ t, PSs (cxOf (L2.CX P w) P w K mg base N qual (defScope st) fa cd A up s H Ek) (defBody st) t ∧ SndS K mg (fun _ => Ek) t f) :
    MCal P w K mg base (k + 1) c m ps (spF K mg ps.length (bodyS N.length f)) := by
  obtain ⟨C, fa, fd, g, cl, me, F, b⟩ := D.ex
  refine ⟨C, fa, fd, g, cl, me, F.lkf, b, Fun.okG F S (fun vs H Q E h => spF.len h) fun cd A up s H vs Q E hr hG h => ?_⟩
  obtain ⟨t, h1, h2⟩ := hb fa cd A up s H E hr hG
  exact ⟨t, h1, body_ok h2 h⟩
theorem MCal.impF {c m : Str} {ps : List Str} {n : Nat} {S S' : SpecT} (D : MCal P w K mg base k c m ps (spF K mg n S)) (h : ∀ ts st P X, S' ts st P X → S ts st P X) : MCal P w K mg base k c m ps (spF K mg n S') := by
  obtain ⟨C, f, fd, g, cl, me, lk, b, F⟩ := D.ex
  exact ⟨C, f, fd, g, cl, me, lk, b, fun vs H Q E q => F.len vs H Q E (spF.imp h q), fun A up s H ar us vs Q E hr hG e0 bt rv hs => F.go A up s H ar us vs Q E hr hG e0 bt rv (spF.imp h hs)⟩
end
section
variable {X : Cx} {k : Nat} {x c m : Str} {ps : List Str} {sp : Sp} {E : L2.St → XK} {p pos apos : Pos} {e o : Expr} {es : List Expr} {ta : TE} {t : TA}
theorem runGS {f : Addr} {fd : FuncData} {pins : List (Addr × Obj)} {σ : L2.St} {H : Hp} {s : Shared} {Q : VK} {us : List Value} {vs : List V} {Ek : XK} (F : FnG X.prog X.w X.K X.mg X.base k f fd ps sp) (hr : Room k X.A) (hG : X.A.guards = some [])
    (hb : Binds X.K fd ps []) (hx : PassesAt (L2.CX X.prog X.w) X σ Ek) (I : Inv X pins σ H s) (r : Vals vs us) (h : sp vs H Q Ek) : wpAny (model X.prog X.w) X.A (call (.ref f) us) (EP X pins σ Q) X.xe s := by
  have hl : (us ++ []).length = ps.length := by rw [List.append_nil, ← r.length]; exact F.len _ _ _ _ h
  have bt := hb s us I.kIn hl
  rw [List.append_nil] at bt
  refine wpAny_call (codeAny_mono (F.go X.A X.stack s H ⟨us, []⟩ us vs Q Ek hr hG I.env0 bt r h) fun res s2 h2 => ?_)
  match res, h2 with
  | .error e, h2 => exact hx pins H s e s2 I h2
  | .ok (.ret u), h2 => exact I.after h2
/-- f(e, ..) -/
theorem pe_cs (D : Cal X.prog X.w X.K X.mg X.base k x ps sp) (hr : Room k X.A) (hG : X.A.guards = some []) (hg : Gl X x) (hx : ∀ σ, PassesAt (L2.CX X.prog X.w) X σ (E σ)) (ha : PA X (e :: es) t)
    (hdb : (x == ("__debug__" : Str)) = false := by decide) (hs : starEach (e :: es) X.env = (false, eval e X.env) :: starEach es X.env := by rfl) (hp : (backTo pos (starEach es X.env)).any (·.1) = false := by rfl) :
    PE X (.Call (.Name x p) (e :: es) [] pos) (tCallS sp E t) := by
  obtain ⟨f, fd, g, kp, b, F⟩ := D.ex
  refine ⟨fun pins s σ H Q I h => wpAny_Call_Name_kw (ld_glob I hg g ?_ hdb)⟩
  exact PySem.W.callWith_K (h₀ := X.base) I.ok.mod.kin kp (thn (ha.run pos pins s σ H _ I h) fun us s1 ⟨vs, H1, I1, r, q⟩ => ⟨I1.kIn, runGS F hr hG b (hx σ) I1 r q⟩) hs hp
theorem pe_cs0 (D : Cal X.prog X.w X.K X.mg X.base k x ps sp) (hr : Room k X.A) (hG : X.A.guards = some []) (hg : Gl X x) (hx : ∀ σ, PassesAt (L2.CX X.prog X.w) X σ (E σ)) (hdb : (x == ("__debug__" : Str)) = false := by decide) :
    PE X (.Call (.Name x p) [] [] pos) (tCallS sp E tNil) := by
  obtain ⟨f, fd, g, kp, b, F⟩ := D.ex
  exact ⟨fun pins s σ H Q I h => wpAny_Call_Name_kw (ld_glob I hg g (PySem.W.callWith_K0 I.kIn kp (runGS (us := []) F hr hG b (hx σ) I .nil h)) hdb)⟩
/-- o.m(e, ..), o an instance of the class named c -/
def tMt (mg : Str → Option Value) (c m : Str) (sp : Sp) (E : L2.St → XK) (ta : TE) (t : TA) : TE := fun σ H Q => ta σ H fun x H1 => ∃ a C dx fs, x = .ref a ∧ mg c = some (.ref C) ∧ H1 a = some (.ins C dx fs) ∧ fs.lookup m = none ∧ t σ H1 fun vs H2 => sp (x :: vs) H2 Q (E σ)
theorem pe_mt' {mg : Str → Option Value} (hmg : X.mg = mg) {pl : Sem Bool} (D : MCal X.prog X.w X.K X.mg X.base k c m ps sp) (hr : Room k X.A) (hG : X.A.guards = some []) (hx : ∀ σ, PassesAt (L2.CX X.prog X.w) X σ (E σ)) (he : PE X o ta) (ha : PA X (e :: es) t)
    (hs : starEach (e :: es) X.env = (false, eval e X.env) :: starEach es X.env := by rfl) (hp : (backTo pos (starEach es X.env)).any (·.1) = false := by rfl)
    (tree : eval (.Call (.Attribute o m apos) (e :: es) [] pos) X.env = (do
      let ov ← eval o X.env
      standAt apos.atName
      let (f, first) ← holding [ov] (getMethod ov m pl)
      callWith pos f first (backTo pos (starEach (e :: es) X.env)) (backToKw pos (keywordEach [] X.env))) := by rfl) :
    PE X (.Call (.Attribute o m apos) (e :: es) [] pos) (tMt mg c m sp E ta t) := by
  subst hmg
  obtain ⟨C, f, fd, g, cl, me, _, b, F⟩ := D.ex
  refine ⟨fun pins s σ H Q I h => PySem.W.methodCall_KW (pl := pl) (thn (he.run pins s σ H _ I h) fun u s1 ⟨v, H1, I1, rv, a, C', dx, fs, ev, g', at_, no, q⟩ => ?_) tree⟩
  rw [g] at g'
  cases g'
  subst ev
  obtain rfl : u = Value.ref a := rv
  refine getmeth_ok I1 at_ cl me no (PySem.W.callWith_K (first := [.ref a]) (h₀ := X.base) I.ok.mod.kin me.kp (thn (ha.run pos pins s1 σ H1 _ I1 q) fun us s2 ⟨vs, H2, I2, r, q2⟩ => ⟨I2.kIn, ?_⟩) hs hp)
  exact runGS (us := .ref a :: us) (vs := .ref a :: vs) F hr hG b (hx σ) I2 (.cons rfl r) q2
theorem pe_mt0' {mg : Str → Option Value} (hmg : X.mg = mg) {pl : Sem Bool} (D : MCal X.prog X.w X.K X.mg X.base k c m ps sp) (hr : Room k X.A) (hG : X.A.guards = some []) (hx : ∀ σ, PassesAt (L2.CX X.prog X.w) X σ (E σ)) (he : PE X o ta)
    (tree : eval (.Call (.Attribute o m apos) [] [] pos) X.env = (do
      let ov ← eval o X.env
      standAt apos.atName
      let (f, first) ← holding [ov] (getMethod ov m pl)
      callWith pos f first (backTo pos (starEach [] X.env)) (backToKw pos (keywordEach [] X.env))) := by rfl) :
    PE X (.Call (.Attribute o m apos) [] [] pos) (tMt mg c m sp E ta tNil) := by
  subst hmg
  obtain ⟨C, f, fd, g, cl, me, _, b, F⟩ := D.ex
  refine ⟨fun pins s σ H Q I h => PySem.W.methodCall_KW (pl := pl) (thn (he.run pins s σ H _ I h) fun u s1 ⟨v, H1, I1, rv, a, C', dx, fs, ev, g', at_, no, q⟩ => ?_) tree⟩
  rw [g] at g'
  cases g'
  subst ev
  obtain rfl : u = Value.ref a := rv
  refine getmeth_ok I1 at_ cl me no (PySem.W.callWith_K0 (first := [.ref a]) I1.kIn me.kp ?_)
  exact runGS (us := [.ref a]) (vs := [.ref a]) F hr hG b (hx σ) I1 (.cons rfl .nil) q
end
section
variable {K : PySem.W.Frag} {mg : Str → Option Value} {E : L2.St → XK}
/-- an instance of the class named c is seen -/
def seeI (ev : Ev) (t : T) (c : Str) (k : Prop) : Prop := match deref ev.st t with
  | some (.ins c' _) => c' = c ∧ k
  | _ => False
theorem seeI_ok {D : En} {as : List Addr} {G H : Hp} {ev : Ev} {σ : L2.St} {t : T} {v : V} {c : Str} {k : Prop} (R : Rel K mg D as G ev σ H) (tv : TV K mg as G t v) (h : seeI ev t c k) : k ∧ ∃ a C dx fs, v = .ref a ∧ mg c = some (.ref C) ∧ CI K C fs ∧ H a = some (.ins C dx fs) := by
  unfold seeI at h
  split at h
  · rename_i c' fts e
    obtain ⟨a, C, dx, fs, rfl, m, ci, at_, _⟩ := deref_ok R.s tv e
    rw [h.1] at m
    exact ⟨h.2, a, C, dx, fs, rfl, m, ci, at_⟩
  · exact h.elim
theorem CI.noMeth {C : Addr} {fs : List (Str × V)} (c : CI K C fs) {m : Str} {u : Value} (h : PySem.W.findIn K (.ref C) m = some (some u)) : fs.lookup m = none := by
  cases q : fs.lookup m with
  | none => rfl
  | some v =>
    have mem : ∃ p ∈ fs, p.1 = m := by
      clear h c
      induction fs with
      | nil => simp at q
      | cons p fs ih =>
        obtain ⟨g, x⟩ := p
        by_cases z : m = g
        · exact ⟨_, List.mem_cons_self, z.symm⟩
        · simp [List.lookup, beq_eq_false_iff_ne.mpr z] at q
          obtain ⟨p, hp, e⟩ := ih q
          exact ⟨p, List.mem_cons_of_mem _ hp, e⟩
    obtain ⟨p, hp, e⟩ := mem
    have n : PySem.W.findIn K (.ref C) p.1 = some none := c.no p hp
    rw [e, h] at n
    cases n
/-- the class named c has m: no instance has an attribute of that name -/
structure HasM (K : PySem.W.Frag) (mg : Str → Option Value) (c m : Str) : Prop where
  ex : ∃ C u, mg c = some (.ref C) ∧ PySem.W.findIn K (.ref C) m = some (some u)
theorem MCal.has {P : Program} {w : World} {base : Heap} {k : Nat} {c m : Str} {ps : List Str} {sp : Sp} (D : MCal P w K mg base k c m ps sp) : HasM K mg c m := by
  obtain ⟨C, f, fd, g, cl, me, _, b, F⟩ := D.ex
  exact ⟨C, _, g, me.at_⟩
def dMeth (n : Nat) (c : Str) (S : SpecT) (o : DE) (a : DA) : DE := fun P X ev => o (fun t ev1 => seeI ev1 t c (a (fun ts ev2 => ts.length + 1 = n ∧ S (t :: ts) ev2.st (fun r st' => match r with
  | .fr t => P t { ev2 with st := st' }
  | .ow t => P t { ev2 with st := st' }) fun x st' => X x { ev2 with st := st' }) X ev1)) X ev
theorem snd_meth {n : Nat} {c m : Str} {S : SpecT} (hm : HasM K mg c m) {ta : TE} {t : TA} {o : DE} {a : DA} (h : Snd K mg E ta o) (ha : SndA K mg E t a) : Snd K mg E (tFz (tMt mg c m (spF K mg n S) E ta t)) (dMeth n c S o a) := fun D as G ev σ H Q P X R hf hP hX =>
  h D as G ev σ H _ _ X R hf (fun r ev1 as1 G1 v H1 p R1 x1 tv => by
    obtain ⟨p, a0, C, dx, fs, rfl, m, ci, at_⟩ := seeI_ok R1 tv p
    obtain ⟨C', u, m', hu⟩ := hm.ex
    rw [m] at m'
    cases m'
    refine ⟨a0, C, dx, fs, rfl, m, at_, ci.noMeth hu, ha D as1 G1 ev1 σ H1 _ _ X R1 p (fun ts ev2 as2 G2 vs H2 ⟨hl, p⟩ R2 x2 tvs => ?_) (hX.ext x1)⟩
    refine ⟨as2, G2, r :: ts, ev2.st, _, _, hl, R2.s, .cons (tv.mono x2) tvs, p, fun r st' as' G' v H' q R' c rc => ?_, fun x st' as' G' c oa H' q R' ch xv => hX x _ as' G' c oa H' q (R2.call R' ch) ((x1.trans x2).trans ch.ext) xv⟩
    have R3 := R2.call R' c
    cases r with
    | fr t => exact .inl (hP t _ as' G' v H' q R3 ((x1.trans x2).trans c.ext) rc)
    | ow t =>
      obtain ⟨b, rfl, ob, gb, nb, hb⟩ := rc
      exact own_stay R3 ⟨ob, gb, nb, R2.c.keep b hb⟩ (fun ⟨i, u, e1, e2⟩ => R2.notOw hb ⟨i, u, e1, e2⟩) fun G2 H2 R3 x3 tv3 => hP t _ as' G2 _ H2 q R3 (((x1.trans x2).trans c.ext).trans x3) tv3) hX
def dMethO (n : Nat) (c : Str) (S : SpecT) (o : DE) (a : DA) : DE := fun P X ev => o (fun t ev1 => seeI ev1 t c (a (fun ts ev2 => ts.length + 1 = n ∧ S (t :: ts) ev2.st (fun r st' => match r with
  | .ow t => P t { ev2 with st := st' }
  | _ => False) fun x st' => X x { ev2 with st := st' }) X ev1)) X ev
theorem snd_methO {n : Nat} {c m : Str} {S : SpecT} (hm : HasM K mg c m) {ta : TE} {t : TA} {o : DE} {a : DA} (h : Snd K mg E ta o) (ha : SndA K mg E t a) : SndN K mg E (tMt mg c m (spF K mg n S) E ta t) (dMethO n c S o a) := fun D as G ev σ H Q P X R hf hP hX =>
  h D as G ev σ H _ _ X R hf (fun r ev1 as1 G1 v H1 p R1 x1 tv => by
    obtain ⟨p, a0, C, dx, fs, rfl, m, ci, at_⟩ := seeI_ok R1 tv p
    obtain ⟨C', u, m', hu⟩ := hm.ex
    rw [m] at m'
    cases m'
    refine ⟨a0, C, dx, fs, rfl, m, at_, ci.noMeth hu, ha D as1 G1 ev1 σ H1 _ _ X R1 p (fun ts ev2 as2 G2 vs H2 ⟨hl, p⟩ R2 x2 tvs => ?_) (hX.ext x1)⟩
    refine ⟨as2, G2, r :: ts, ev2.st, _, _, hl, R2.s, .cons (tv.mono x2) tvs, p, fun r st' as' G' v H' q R' c rc => ?_, fun x st' as' G' c oa H' q R' ch xv => hX x _ as' G' c oa H' q (R2.call R' ch) ((x1.trans x2).trans ch.ext) xv⟩
    have R3 := R2.call R' c
    cases r with
    | fr t => exact (show False from q).elim
    | ow t =>
      obtain ⟨b, rfl, ob, gb, nb, hb⟩ := rc
      exact hP t _ as' G' b H' q R3 ((x1.trans x2).trans c.ext) ⟨ob, gb, nb, R2.c.keep b hb⟩ fun ⟨i, u, e1, e2⟩ => R2.notOw hb ⟨i, u, e1, e2⟩) hX
/-! ## making an instance -/
mutual
/-- no cell in it -/
def noC : T → Bool
  | .lst ts => noCs ts
  | .tup ts => noCs ts
  | .dct kts => noCk kts
  | .ins _ fts => noCf fts
  | .ev _ fts => noCf fts
  | .cell _ => false
  | .exc _ _ _ _ => false
  | _ => true
def noCs : List T → Bool
  | [] => true
  | t :: ts => noC t && noCs ts
def noCk : List (Key × T) → Bool
  | [] => true
  | (_, t) :: ts => noC t && noCk ts
def noCf : List (Str × T) → Bool
  | [] => true
  | (_, t) :: ts => noC t && noCf ts
end
theorem noCk_map : ∀ kts : List (Key × T), noCk kts = noCs (kts.map (·.2))
  | [] => rfl
  | (_, t) :: ts => by simp only [noCk, List.map_cons, noCs, noCk_map ts]
theorem noCf_map : ∀ kts : List (Str × T), noCf kts = noCs (kts.map (·.2))
  | [] => rfl
  | (_, t) :: ts => by simp only [noCf, List.map_cons, noCs, noCf_map ts]
mutual
theorem TV.noc {as as' : List Addr} {G : Hp} : ∀ {t : T} {v : V}, TV K mg as G t v → noC t = true → TV K mg as' G t v
  | _, _, .non, _ => .non
  | _, _, .bl b, _ => .bl b
  | _, _, .int i, _ => .int i
  | _, _, .str z, _ => .str z
  | _, _, .ty n, _ => .ty n
  | _, _, .scr h, _ => .scr h
  | _, _, .lst h a, e => .lst h (TVs.noc a (by simpa [noC] using e))
  | _, _, .tup h a, e => .tup h (TVs.noc a (by simpa [noC] using e))
  | _, _, .dct h n a, e => .dct h n (TVs.noc a (by rw [← noCk_map]; simpa [noC] using e))
  | _, _, .ins m ci h n a, e => .ins m ci h n (TVs.noc a (by rw [← noCf_map]; simpa [noC] using e))
  | _, _, .glob m, _ => .glob m
  | _, _, .cell h, e => by simp [noC] at e
  | _, _, .exc _, e => by simp [noC] at e
  | _, _, .excD _ _ _ _, e => by simp [noC] at e
  | _, _, .ev m h n a, e => .ev m h n (TVs.noc a (by rw [← noCf_map]; simpa [noC] using e))
theorem TVs.noc {as as' : List Addr} {G : Hp} : ∀ {ts : List T} {vs : List V}, TVs K mg as G ts vs → noCs ts = true → TVs K mg as' G ts vs
  | _, _, .nil, _ => .nil
  | _, _, .cons a b, e => by
    simp only [noCs, Bool.and_eq_true] at e
    exact .cons (TV.noc a e.1) (TVs.noc b e.2)
end
mutual
/-- what was known with fewer cells is known with them still -/
theorem TV.back {as m : List Addr} {G G' : Hp} : ∀ {t : T} {v v' : V}, TV K mg as G t v → TV K mg (as ++ m) G' t v' → TV K mg as G' t v'
  | _, _, _, .non, .non => .non
  | _, _, _, .bl b, .bl _ => .bl b
  | _, _, _, .int i, .int _ => .int i
  | _, _, _, .str z, .str _ => .str z
  | _, _, _, .ty n, .ty _ => .ty n
  | _, _, _, .scr _, .scr h => .scr h
  | _, _, _, .lst _ a, .lst h b => .lst h (TVs.back a b)
  | _, _, _, .tup _ a, .tup h b => .tup h (TVs.back a b)
  | _, _, _, .dct _ _ a, .dct h n b => .dct h n (TVs.back a b)
  | _, _, _, .ins _ _ _ _ a, .ins m ci h n b => .ins m ci h n (TVs.back a b)
  | _, _, _, .glob _, .glob m => .glob m
  | _, _, _, .cell h, .cell h' => .cell (by
    have hl := (List.getElem?_eq_some_iff.mp h).1
    rw [List.getElem?_append_left hl] at h'
    exact h')
  | _, _, _, .exc _, .exc h => .exc h
  | _, _, _, .excD _ _ _ a, .excD m g e b => .excD m g e (TVs.back a b)
  | _, _, _, .ev _ _ _ a, .ev m g e b => .ev m g e (TVs.back a b)
theorem TVs.back {as m : List Addr} {G G' : Hp} : ∀ {ts : List T} {vs vs' : List V}, TVs K mg as G ts vs → TVs K mg (as ++ m) G' ts vs' → TVs K mg as G' ts vs'
  | _, _, _, .nil, .nil => .nil
  | _, _, _, .cons a b, .cons c d => .cons (TV.back a c) (TVs.back b d)
end
theorem Obj'.back {as m : List Addr} {G G' : Hp} {t : T} {o o' : HO} (h : Obj' K mg as G t o) (h' : Obj' K mg (as ++ m) G' t o') : Obj' K mg as G' t o' := by
  cases h with
  | lst a => cases h' with | lst b => exact .lst (a.back b)
  | dct _ a => cases h' with | dct n b => exact .dct n (a.back b)
  | ins _ _ _ a => cases h' with | ins m ci n b => exact .ins m ci n (a.back b)
/-- the class named c: its instances are made by an __init__ -/
structure MkF (K : PySem.W.Frag) (mg : Str → Option Value) (c : Str) : Prop where
  ex : ∃ C, mg c = some (.ref C) ∧ CI K C []
def tMk (mg : Str → Option Value) (c : Str) (sp : Sp) (E : L2.St → XK) (t : TA) : TE := fun σ H Q => t σ H fun vs H1 => ∃ C, mg c = some (.ref C) ∧ ∀ x dx, H1 x = none → H1 dx = none → dx ≠ x → sp (.ref x :: vs) (upd (upd H1 dx (.own x)) x (.ins C dx [])) (fun v H2 => v = .non ∧ Q (.ref x) H2) (E σ)
/-- C(..): the instance, which stays as it is behind its __init__ -/
def dMake (n : Nat) (c : Str) (S : SpecT) (a : DA) : DE := fun P X ev => a (fun ts ev1 => ts.length + 1 = n ∧ S (.cell ev1.st.length :: ts) (ev1.st ++ [(false, .ins c [])]) (fun r st' => (match r with | .fr .non => True | _ => False) ∧ ∃ fts, st' = ev1.st ++ [(false, .ins c fts)] ∧ noCf fts = true ∧ P (.ins c fts) ev1) fun x st' => X x { ev1 with st := st' }) X ev
theorem snd_make {n : Nat} {c : Str} {S : SpecT} (hm : MkF K mg c) {t : TA} {a : DA} (h : SndA K mg E t a) : Snd K mg E (tMk mg c (spF K mg n S) E t) (dMake n c S a) := fun D as G ev σ H Q P X R hf hP hX =>
  h D as G ev σ H _ _ X R hf (fun ts ev1 as1 G1 vs H1 ⟨hl, p⟩ R1 x1 tvs => by
    obtain ⟨C, m, ci⟩ := hm.ex
    refine ⟨C, m, fun x dx hx hdx ne => ?_⟩
    have hdx1 : upd H1 dx (.own x) x = none := by rw [upd_ne (Ne.symm ne)]; exact hx
    have R2 : RelS K mg as1 G1 ev1.st (upd (upd H1 dx (.own x)) x (.ins C dx [])) := (R1.s.oth (o := .own x) (R1.s.sub.free hdx) fun z => (R1.s.mem z).1 hdx).oth (R1.s.sub.free hx) fun z => (R1.s.mem z).1 hx
    have nx : x ∉ as1 := fun z => (R1.s.mem z).1 hx
    have gx : G1 x = none := R1.s.sub.free hx
    have R3 := R2.box (t := .ins c []) gx nx upd_same (.ins m ci rfl .nil)
    have c0 : Chg as1 G1 H1 as1 G1 (upd (upd H1 dx (.own x)) x (.ins C dx [])) := (Chg.new hdx).trans (Chg.new hdx1)
    have c1 : Chg as1 G1 H1 (as1 ++ [x]) G1 (upd (upd H1 dx (.own x)) x (.ins C dx [])) := ⟨⟨[x], rfl, fun b hb => by rw [List.mem_singleton.mp hb]; exact hx⟩, c0.g, c0.gn, c0.fr, c0.keep, c0.lk⟩
    have xx : Ext as1 G1 (as1 ++ [x]) G1 := ⟨⟨[x], rfl⟩, Same.refl _⟩
    refine ⟨as1 ++ [x], G1, .cell ev1.st.length :: ts, _, _, _, hl, R3, .cons (.cell (by rw [← R1.s.len]; simp)) (tvs.mono xx), p, fun r st' as' G' v H' q R' ch rc => ?_, fun y st' as' G' c oa H' q R' ch xv => ?_⟩
    · obtain ⟨hr, fts, e, nc, q⟩ := q
      have vn : v = .non := by
        match r, hr with
        | .fr .non, _ => cases rc; rfl
      refine ⟨vn, ?_⟩
      subst e
      obtain ⟨m', e', hm'⟩ := ch.more
      have hm0 : m' = [] := by
        have := R'.len
        rw [e', List.length_append, List.length_append, List.length_append, R1.s.len] at this
        simpa using this
      subst hm0
      rw [List.append_nil] at e'
      subst e'
      obtain ⟨g, o, ob, at_⟩ := R'.cell ev1.st.length (false, .ins c fts) x (by simp) (by rw [← R1.s.len]; simp)
      have hH : H' x = some o := by unfold Ats at at_; rw [if_neg (by simp)] at at_; exact at_
      cases ob with
      | ins m2 ci2 n2 b2 =>
        rename_i C2 dx2 fs2
        have RS : RelS K mg as1 G' ev1.st H' := ⟨R'.sub, R1.s.nd, R1.s.len, fun j d b hj hb => by
          have hj' : (ev1.st ++ [(false, .ins c fts)])[j]? = some d := by rw [List.getElem?_append_left (List.getElem?_eq_some_iff.mp hj).1]; exact hj
          have hb' : (as1 ++ [x])[j]? = some b := ext_get hb
          obtain ⟨g3, o3, ob3, at3⟩ := R'.cell j d b hj' hb'
          obtain ⟨_, o4, ob4, _⟩ := R1.s.cell j d b hj hb
          exact ⟨g3, o3, ob4.back ob3, at3⟩⟩
        have RS2 := RS.stay (p := x) (o := .ins C2 dx2 fs2) (u := .ins C2 dx2 fs2) g nx
        have same : upd H' x (.ins C2 dx2 fs2) = H' := by
          funext b
          by_cases e : b = x
          · rw [e, upd_same, hH]
          · rw [upd_ne e]
        rw [same] at RS2
        have cc := c1.trans ch
        have ch2 : Chg as1 G1 H1 as1 (upd G' x (.ins C2 dx2 fs2)) H' := ⟨⟨[], by simp⟩, fun b o e => by rw [upd_ne (ne_of_none e gx)]; exact cc.g b o e, fun b hb => by
          by_cases e : b = x
          · exact .inr (by rw [e]; exact hx)
          · rw [upd_ne e] at hb; exact cc.gn b hb, cc.fr, cc.keep, cc.lk⟩
        have R4 := R1.call RS2 ch2
        refine hP _ _ as1 _ _ H' q R4 (x1.trans ch2.ext) (.ins m2 ci2 upd_same n2 ?_)
        exact (b2.mono (Ext.new g)).noc (by rw [← noCf_map]; exact nc)
    · have cc := c1.trans ch
      exact hX y _ as' G' c oa H' q (R1.call R' cc) (x1.trans cc.ext) xv) hX
/-- C(..): the instance, a cell -/
def dMakeC (n : Nat) (c : Str) (S : SpecT) (a : DA) : DE := fun P X ev => a (fun ts ev1 => ts.length + 1 = n ∧ S (.cell ev1.st.length :: ts) (ev1.st ++ [(false, .ins c [])]) (fun r st' => (match r with | .fr .non => True | _ => False) ∧ P (.cell ev1.st.length) { ev1 with st := st' }) fun x st' => X x { ev1 with st := st' }) X ev
theorem snd_makeC {n : Nat} {c : Str} {S : SpecT} (hm : MkF K mg c) {t : TA} {a : DA} (h : SndA K mg E t a) : Snd K mg E (tMk mg c (spF K mg n S) E t) (dMakeC n c S a) := fun D as G ev σ H Q P X R hf hP hX =>
  h D as G ev σ H _ _ X R hf (fun ts ev1 as1 G1 vs H1 ⟨hl, p⟩ R1 x1 tvs => by
    obtain ⟨C, m, ci⟩ := hm.ex
    refine ⟨C, m, fun x dx hx hdx ne => ?_⟩
    have hdx1 : upd H1 dx (.own x) x = none := by rw [upd_ne (Ne.symm ne)]; exact hx
    have R2 : RelS K mg as1 G1 ev1.st (upd (upd H1 dx (.own x)) x (.ins C dx [])) := (R1.s.oth (o := .own x) (R1.s.sub.free hdx) fun z => (R1.s.mem z).1 hdx).oth (R1.s.sub.free hx) fun z => (R1.s.mem z).1 hx
    have nx : x ∉ as1 := fun z => (R1.s.mem z).1 hx
    have gx : G1 x = none := R1.s.sub.free hx
    have R3 := R2.box (t := .ins c []) gx nx upd_same (.ins m ci rfl .nil)
    have c0 : Chg as1 G1 H1 as1 G1 (upd (upd H1 dx (.own x)) x (.ins C dx [])) := (Chg.new hdx).trans (Chg.new hdx1)
    have c1 : Chg as1 G1 H1 (as1 ++ [x]) G1 (upd (upd H1 dx (.own x)) x (.ins C dx [])) := ⟨⟨[x], rfl, fun b hb => by rw [List.mem_singleton.mp hb]; exact hx⟩, c0.g, c0.gn, c0.fr, c0.keep, c0.lk⟩
    have xx : Ext as1 G1 (as1 ++ [x]) G1 := ⟨⟨[x], rfl⟩, Same.refl _⟩
    refine ⟨as1 ++ [x], G1, .cell ev1.st.length :: ts, _, _, _, hl, R3, .cons (.cell (by rw [← R1.s.len]; simp)) (tvs.mono xx), p, fun r st' as' G' v H' q R' ch rc => ?_, fun y st' as' G' c oa H' q R' ch xv => ?_⟩
    · obtain ⟨hr, q⟩ := q
      have vn : v = .non := by
        match r, hr with
        | .fr .non, _ => cases rc; rfl
      have cc := c1.trans ch
      exact ⟨vn, hP _ _ as' G' _ H' q (R1.call R' cc) (x1.trans cc.ext) ((TV.cell (by rw [← R1.s.len]; simp)).mono ch.ext)⟩
    · have cc := c1.trans ch
      exact hX y _ as' G' c oa H' q (R1.call R' cc) (x1.trans cc.ext) xv) hX
/-- a new list or dict becomes a cell -/
def dBox (f : DE) : DE := fun P X ev => f (fun t ev1 => P (.cell ev1.st.length) { ev1 with st := ev1.st ++ [(false, t)] }) X ev
theorem snd_box {t : TE} {f : DE} (h : SndN K mg E t f) : Snd K mg E t (dBox f) := fun D as G ev σ H Q P X R hf hP hX =>
  h D as G ev σ H _ _ X R hf (fun r ev1 as1 G1 a H1 p R1 x1 O nw => hP _ _ _ G1 _ H1 p (R1.box O nw) (x1.trans ⟨⟨[a], rfl⟩, Same.refl _⟩) (.cell (by rw [← R1.s.len]; simp))) hX
/-! ## raised -/
def dRaise1 (c f : Str) (a : DA) : DS := fun P ev => a (fun ts ev1 => match ts with
  | [t] => P.ex ⟨c, [(f, t)]⟩ ev1
  | _ => False) P.ex ev
theorem snd_raise1 {W : WX} {c f : Str} {C : Addr} (g : mg c = some (.ref C)) {t : TA} {a : DA} (h : SndA K mg (WE W) t a) : SndS K mg (WE W) (fun _ σ H => tR1 C f t σ H fun cls d H' => W cls d σ H') (dRaise1 c f a) := fun D as G ev σ H Dn P R hf F =>
  h D as G ev σ H _ _ P.ex R hf (fun ts ev1 as1 G1 vs H1 p R1 x1 tvs => by
    match ts, vs, tvs, p with
    | [t], [v], .cons tv .nil, p =>
      refine ⟨v, rfl, fun n hn => F.ex _ ev1 as1 _ σ _ _ _ p (R1.fz hn) (x1.trans (Ext.new (R1.s.sub.free hn))) ⟨C, g, rfl, .inr ⟨n, _, rfl, upd_same, rfl, .cons (tv.mono (Ext.new (R1.s.sub.free hn))) .nil⟩⟩⟩) (F.px σ)
def dRaise2 (c f g : Str) (a : DA) : DS := fun P ev => a (fun ts ev1 => match ts with
  | [t, u] => P.ex ⟨c, [(g, u), (f, t)]⟩ ev1
  | _ => False) P.ex ev
theorem snd_raise2 {W : WX} {c f g' : Str} {C : Addr} (g : mg c = some (.ref C)) {t : TA} {a : DA} (h : SndA K mg (WE W) t a) : SndS K mg (WE W) (fun _ σ H => tR2 C f g' t σ H fun cls d H' => W cls d σ H') (dRaise2 c f g' a) := fun D as G ev σ H Dn P R hf F =>
  h D as G ev σ H _ _ P.ex R hf (fun ts ev1 as1 G1 vs H1 p R1 x1 tvs => by
    match ts, vs, tvs, p with
    | [t, u], [v, w], .cons tv (.cons tu .nil), p =>
      exact ⟨v, w, rfl, fun n hn => F.ex _ ev1 as1 _ σ _ _ _ p (R1.fz hn) (x1.trans (Ext.new (R1.s.sub.free hn))) ⟨C, g, rfl, .inr ⟨n, _, rfl, upd_same, rfl, .cons (tu.mono (Ext.new (R1.s.sub.free hn))) (.cons (tv.mono (Ext.new (R1.s.sub.free hn))) .nil)⟩⟩⟩) (F.px σ)
end
end Fu
set_option Elab.async false
set_option linter.all false
set_option maxRecDepth 100000
set_option maxHeartbeats 4000000
namespace Fu
open PySem PySem.Spec PyProof.Rows L2 Hv
/-! # keywords, makings, own operators, constants of classes -/
/-- values by position, then by keyword, in the parameters' order -/
def gP {α : Type} (is : List Nat) (us ws : List α) : List α := is.filterMap fun i => (us ++ ws)[i]?
def gS {α : Type} (is : List Nat) (us ws : List α) : List α := match us with
  | x :: us => x :: gP is us ws
  | [] => []
theorem vals_get : ∀ {vs : List V} {us : List Value}, Vals vs us → ∀ i : Nat, (vs[i]? = none ∧ us[i]? = none) ∨ ∃ v u, vs[i]? = some v ∧ us[i]? = some u ∧ RelV v u
  | _, _, .nil, i => .inl ⟨rfl, rfl⟩
  | _, _, .cons r _, 0 => .inr ⟨_, _, rfl, rfl, r⟩
  | _, _, .cons _ r, i + 1 => vals_get r i
theorem gP_vals {vs : List V} {us : List Value} (r : Vals vs us) : ∀ is : List Nat, Vals (is.filterMap fun i => vs[i]?) (is.filterMap fun i => us[i]?)
  | [] => .nil
  | i :: is => by
    rcases vals_get r i with ⟨h1, h2⟩ | ⟨v, u, h1, h2, h3⟩
    · rw [List.filterMap_cons_none h1, List.filterMap_cons_none h2]; exact gP_vals r is
    · rw [List.filterMap_cons_some h1, List.filterMap_cons_some h2]; exact .cons h3 (gP_vals r is)
theorem gS_rel (is : List Nat) {vs : List V} {us : List Value} {zs : List V} {ws : List Value} (r : Vals vs us) (rz : Vals zs ws) : Vals (gS is vs zs) (gS is us ws) := by
  cases r with
  | nil => exact .nil
  | cons h r => exact .cons h (gP_vals (Vals.append r rz) is)
def tKw (n m : Nat) (is : List Nat) (t tk : TA) : TA := fun σ H Q => t σ H fun vs H1 => tk σ H1 fun zs H2 => vs.length = n ∧ zs.length = m ∧ Q (gP is vs zs) H2
def daKw (n m : Nat) (is : List Nat) (a b : DA) : DA := fun P X ev => a (fun ts ev1 => b (fun us ev2 => ts.length = n ∧ us.length = m ∧ P (gP is ts us) ev2) X ev1) X ev
section
variable {K : PySem.W.Frag} {mg : Str → Option Value} {E : L2.St → XK}
theorem gP_tvs {as : List Addr} {G : Hp} {ts : List T} {vs : List V} (r : TVs K mg as G ts vs) : ∀ is : List Nat, TVs K mg as G (is.filterMap fun i => ts[i]?) (is.filterMap fun i => vs[i]?)
  | [] => .nil
  | i :: is => by
    cases h1 : ts[i]? with
    | none =>
      have h2 : vs[i]? = none := by
        rw [List.getElem?_eq_none_iff] at h1 ⊢
        rw [← r.length]; exact h1
      rw [List.filterMap_cons_none h1, List.filterMap_cons_none h2]; exact gP_tvs r is
    | some t =>
      obtain ⟨v, h2, h3⟩ := r.get h1
      rw [List.filterMap_cons_some h1, List.filterMap_cons_some h2]; exact .cons h3 (gP_tvs r is)
theorem snd_kw {n m : Nat} {is : List Nat} {t tk : TA} {a b : DA} (h : SndA K mg E t a) (k : SndA K mg E tk b) : SndA K mg E (tKw n m is t tk) (daKw n m is a b) := fun D as G ev σ H Q P X R f hP hX =>
  h D as G ev σ H _ _ X R f (fun ts ev1 as1 G1 vs H1 p R1 x1 tv => k D as1 G1 ev1 σ H1 _ _ X R1 p (fun us ev2 as2 G2 zs H2 p2 R2 x2 tz => by
    have tv2 := tv.mono x2
    exact ⟨tv2.length.symm.trans p2.1, tz.length.symm.trans p2.2.1, hP _ ev2 as2 G2 _ H2 p2.2.2 R2 (x1.trans x2) (gP_tvs (tv2.app tz) is)⟩) (hX.ext x1)) hX
end
/-! ## methods by keywords -/
structure MCalK (P : Program) (w : World) (K : PySem.W.Frag) (mg : Str → Option Value) (base : Heap) (k : Nat) (c m : Str) (n : Nat) (ks : List Str) (is : List Nat) (sp : Sp) : Prop where
  ex : ∃ (C f : Addr) (fd : FuncData) (ps : List Str), mg c = some (.ref C) ∧ Cls K C ∧ Meth K C m f ∧ KBn K fd ps (n + 1) ks (gS is) (gS is) ∧ FnG P w K mg base k f fd ps sp
theorem MCal.kw {P : Program} {w : World} {K : PySem.W.Frag} {mg : Str → Option Value} {base : Heap} {k : Nat} {c m qual : Str} {st : Stmt} {ps : List Str} {sp : Sp} (D : MCal P w K mg base k c m ps sp) (M : MetDef K mg c m qual st ps) (n : Nat) (ks : List Str) (is : List Nat)
    (h : ∀ (kV doc pm : Value) (an : Option Addr) (cdv ct : Value) (us ws : List Value), us.length = n + 1 → ws.length = ks.length → bindArgs (PySem.W.fnOf m qual (defArgs st) (defBody st) (defScope st) .none kV doc pm an cdv ct) ⟨us, ks.zip ws⟩ = pure (ps.zip (gS is us ws))) :
    MCalK P w K mg base k c m n ks is sp := by
  obtain ⟨C, f, fd, g, cl, me, lk, b, F⟩ := D.ex
  obtain ⟨C', f', fd', g', cl', me', F', b'⟩ := M.ex
  rw [g] at g'
  cases g'
  have e := me.at_
  rw [me'.at_] at e
  cases e
  obtain rfl := lk.same F'.lkf
  exact ⟨C, f, fd, ps, g, cl, me, Hv.Fun.kb F' (n + 1) ks (gS is) (gS_rel is) h, F⟩
section
variable {X : Cx} {k : Nat} {x c m : Str} {ps ks : List Str} {sp : Sp} {E : L2.St → XK} {p pos apos : Pos} {e o : Expr} {es : List Expr} {ta : TE} {t tk : TA} {kws : List Keyword} {n : Nat} {is : List Nat}
theorem runGSK {f : Addr} {fd : FuncData} {pins : List (Addr × Obj)} {σ : L2.St} {H : Hp} {s : Shared} {Q : VK} {us ws : List Value} {vs zs : List V} {Ek : XK} {g : List Value → List Value → List Value} {gV : List V → List V → List V} (F : FnG X.prog X.w X.K X.mg X.base k f fd ps sp) (hr : Room k X.A) (hG : X.A.guards = some [])
    (hb : KBn X.K fd ps n ks g gV) (hx : PassesAt (L2.CX X.prog X.w) X σ Ek) (I : Inv X pins σ H s) (r : Vals vs us) (rz : Vals zs ws) (l1 : vs.length = n) (l2 : zs.length = ks.length) (h : sp (gV vs zs) H Q Ek) : wpAny (model X.prog X.w) X.A (call (.ref f) us (ks.zip ws)) (EP X pins σ Q) X.xe s := by
  refine wpAny_call (codeAny_mono (F.go X.A X.stack s H ⟨us, ks.zip ws⟩ (g us ws) (gV vs zs) Q Ek hr hG I.env0 (hb.to s us ws I.kIn (r.length.symm.trans l1) (rz.length.symm.trans l2)) (hb.rel r rz) h) fun res s2 h2 => ?_)
  match res, h2 with
  | .error e, h2 => exact hx pins H s e s2 I h2
  | .ok (.ret u), h2 => exact I.after h2
/-- o.m(e, .., k = v, ..) -/
theorem pe_mtK {mg : Str → Option Value} (hmg : X.mg = mg) {pl : Sem Bool} (D : MCalK X.prog X.w X.K X.mg X.base k c m n ks is sp) (hr : Room k X.A) (hG : X.A.guards = some []) (hx : ∀ σ, PassesAt (L2.CX X.prog X.w) X σ (E σ)) (he : PE X o ta) (ha : PA X (e :: es) t) (hkw : PK X kws tk)
    (hall : (backToKw pos (keywordEach kws X.env)).all (·.1.isSome) = true := by rfl) (hks : (backToKw pos (keywordEach kws X.env)).filterMap (·.1) = ks := by rfl)
    (hs : starEach (e :: es) X.env = (false, eval e X.env) :: starEach es X.env := by rfl) (hp : ((backTo pos (starEach (e :: es) X.env)).any (·.1) || (backToKw pos (keywordEach kws X.env)).any (·.1.isNone)) = false := by rfl)
    (tree : eval (.Call (.Attribute o m apos) (e :: es) kws pos) X.env = (do
      let ov ← eval o X.env
      standAt apos.atName
      let (f, first) ← holding [ov] (getMethod ov m pl)
      callWith pos f first (backTo pos (starEach (e :: es) X.env)) (backToKw pos (keywordEach kws X.env))) := by rfl) :
    PE X (.Call (.Attribute o m apos) (e :: es) kws pos) (tMt mg c m sp E ta (tKw n ks.length is t tk)) := by
  subst hmg
  obtain ⟨C, f, fd, ps, g, cl, me, b, F⟩ := D.ex
  refine ⟨fun pins s σ H Q I h => PySem.W.methodCall_KW (pl := pl) (thn (he.run pins s σ H _ I h) fun u s1 ⟨v, H1, I1, rv, a, C', dx, fs, ev, g', at_, no, q⟩ => ?_) tree⟩
  rw [g] at g'
  cases g'
  subst ev
  obtain rfl : u = Value.ref a := rv
  refine getmeth_ok I1 at_ cl me no (PySem.W.callWith_KW (first := [.ref a]) (h₀ := X.base) I.ok.mod.kin me.kp hall (thn (ha.run pos pins s1 σ H1 _ I1 q) fun us s2 ⟨vs, H2, I2, r, q2⟩ => ?_) hp hs)
  refine thn (hkw.run pos pins s2 σ H2 _ I2 q2) fun ws s3 ⟨zs, H3, I3, rz, l1, l2, q3⟩ => ⟨I3.kIn, ?_⟩
  rw [hks]
  exact runGSK (us := .ref a :: us) (vs := .ref a :: vs) F hr hG b (hx σ) I3 (.cons rfl r) rz (congrArg Nat.succ l1) l2 q3
/-- o.m(k = v, ..) -/
theorem pe_mtK0 {mg : Str → Option Value} (hmg : X.mg = mg) {pl : Sem Bool} (D : MCalK X.prog X.w X.K X.mg X.base k c m 0 ks is sp) (hr : Room k X.A) (hG : X.A.guards = some []) (hx : ∀ σ, PassesAt (L2.CX X.prog X.w) X σ (E σ)) (he : PE X o ta) (hkw : PK X kws tk)
    (hall : (backToKw pos (keywordEach kws X.env)).all (·.1.isSome) = true := by rfl) (hks : (backToKw pos (keywordEach kws X.env)).filterMap (·.1) = ks := by rfl)
    (hp : ((backTo pos (starEach [] X.env)).any (·.1) || (backToKw pos (keywordEach kws X.env)).any (·.1.isNone)) = false := by rfl)
    (tree : eval (.Call (.Attribute o m apos) [] kws pos) X.env = (do
      let ov ← eval o X.env
      standAt apos.atName
      let (f, first) ← holding [ov] (getMethod ov m pl)
      callWith pos f first (backTo pos (starEach [] X.env)) (backToKw pos (keywordEach kws X.env))) := by rfl) :
    PE X (.Call (.Attribute o m apos) [] kws pos) (tMt mg c m sp E ta (tKw 0 ks.length is tNil tk)) := by
  subst hmg
  obtain ⟨C, f, fd, ps, g, cl, me, b, F⟩ := D.ex
  refine ⟨fun pins s σ H Q I h => PySem.W.methodCall_KW (pl := pl) (thn (he.run pins s σ H _ I h) fun u s1 ⟨v, H1, I1, rv, a, C', dx, fs, ev, g', at_, no, q⟩ => ?_) tree⟩
  rw [g] at g'
  cases g'
  subst ev
  obtain rfl : u = Value.ref a := rv
  refine getmeth_ok I1 at_ cl me no (PySem.W.callWith_KW0 (first := [.ref a]) (h₀ := X.base) I.ok.mod.kin me.kp hall ?_ hp)
  refine thn (hkw.run pos pins s1 σ H1 _ I1 q) fun ws s3 ⟨zs, H3, I3, rz, l1, l2, q3⟩ => ⟨I3.kIn, ?_⟩
  rw [hks]
  exact runGSK (us := [.ref a]) (vs := [.ref a]) F hr hG b (hx σ) I3 (.cons rfl .nil) rz rfl l2 q3
/-! ## makings -/
/-- the class named c can be made; no other's making comes between -/
structure MkC (K : PySem.W.Frag) (mg : Str → Option Value) (c : Str) : Prop where
  ex : ∃ C, mg c = some (.ref C) ∧ PySem.W.makesIn K C = true ∧ PySem.W.keepIn K (.ref C) = true
theorem runMk {C f : Addr} {fd : FuncData} {pins : List (Addr × Obj)} {σ : L2.St} {H : Hp} {s : Shared} {Q : VK} {us ws : List Value} {vs zs : List V} {Ek : XK} {g : List Value → List Value → List Value} {gV : List V → List V → List V} (M : Mk X.K C f) (F : FnG X.prog X.w X.K X.mg X.base k f fd ps sp) (hr : Room (k + 1) X.A) (hG : X.A.guards = some [])
    (hb : KBn X.K fd ps (n + 1) ks g gV) (hx : PassesAt (L2.CX X.prog X.w) X σ Ek) (I : Inv X pins σ H s) (r : Vals vs us) (rz : Vals zs ws) (l1 : vs.length = n) (l2 : zs.length = ks.length)
    (h : ∀ x dx, H x = none → H dx = none → dx ≠ x → sp (gV (.ref x :: vs) zs) (upd (upd H dx (.own x)) x (.ins C dx [])) (fun v H2 => v = .non ∧ Q (.ref x) H2) Ek) :
    wpAny (model X.prog X.w) X.A (call (.ref C) us (ks.zip ws)) (EP X pins σ Q) X.xe s := by
  have want := h (s.heap.objs.size + 1) s.heap.objs.size (I.hok.fresh (Nat.le_succ _)) (I.hok.fresh (Nat.le_refl _)) (Nat.ne_of_lt (Nat.lt_succ_self _))
  have J := Inv.made (C := C) I
  have rr : Vals (V.ref (s.heap.objs.size + 1) :: vs) (Value.ref (s.heap.objs.size + 1) :: us) := .cons rfl r
  have n1 : (Value.ref (s.heap.objs.size + 1) :: us).length = n + 1 := by rw [List.length_cons, ← r.length, l1]
  have hG2 : (X.A.under (.builtin "type.__call__" ⟨.ref C :: us, ks.zip ws⟩)).guards = some [] := hG
  refine wpAny_call (make_map (f := f) I.kIn M.makes M.init (beq_iff_eq.mp M.fn) (codeAny_mono (F.go _ X.stack _ _ ⟨Value.ref (s.heap.objs.size + 1) :: us, ks.zip ws⟩ (g (Value.ref (s.heap.objs.size + 1) :: us) ws) _ _ Ek (hr.make C us (ks.zip ws)) hG2
    (J.env0.make C us (ks.zip ws)) (hb.to _ (Value.ref (s.heap.objs.size + 1) :: us) ws J.kIn n1 (rz.length.symm.trans l2)) (hb.rel rr rz) want) fun res s2 back => ?_))
  match res, back with
  | .error e, back => exact hx pins _ _ e s2 J back
  | .ok (.ret u), back =>
    obtain ⟨v, H', I3, rv, ev, q3⟩ := J.after back
    subst ev
    exact ⟨rv, ⟨V.ref (s.heap.objs.size + 1), H', I3, rfl, q3⟩⟩
theorem kb_pos {K : PySem.W.Frag} {fd : FuncData} {ps : List Str} (hb : Binds K fd ps []) {n : Nat} (e : ps.length = n + 1) : KBn K fd ps (n + 1) [] (fun us ws => us) (fun us ws => us) :=
  ⟨fun s us ws X l1 l2 => by
    have b := hb s us X (by rw [List.append_nil, l1, e])
    rw [List.append_nil] at b
    exact b, fun r _ => r⟩
/-- C(e, ..) -/
theorem pe_mk {mg : Str → Option Value} (hmg : X.mg = mg) (M : MkC X.K X.mg x) (D : MCal X.prog X.w X.K X.mg X.base k x "__init__" ps sp) (hr : Room (k + 1) X.A) (hG : X.A.guards = some []) (hg : Gl X x) (hx : ∀ σ, PassesAt (L2.CX X.prog X.w) X σ (E σ)) (ha : PA X (e :: es) t)
    (hdb : (x == ("__debug__" : Str)) = false := by decide) (hs : starEach (e :: es) X.env = (false, eval e X.env) :: starEach es X.env := by rfl) (hp : (backTo pos (starEach es X.env)).any (·.1) = false := by rfl) :
    PE X (.Call (.Name x p) (e :: es) [] pos) (tMk mg x sp E t) := by
  subst hmg
  obtain ⟨C, f, fd, g, cl, me, _, b, F⟩ := D.ex
  obtain ⟨C', g', mk, kp⟩ := M.ex
  rw [g] at g'
  cases g'
  refine ⟨fun pins s σ H Q I h => wpAny_Call_Name_kw (ld_glob I hg g ?_ hdb)⟩
  refine PySem.W.callWith_K (h₀ := X.base) I.ok.mod.kin kp (thn (ha.run pos pins s σ H _ I h) fun us s1 ⟨vs, H1, I1, r, C', g', q⟩ => ⟨I1.kIn, ?_⟩) hs hp
  rw [g] at g'
  cases g'
  have len : ps.length = vs.length + 1 := (F.len _ _ _ _ (q (s1.heap.objs.size + 1) s1.heap.objs.size (I1.hok.fresh (Nat.le_succ _)) (I1.hok.fresh (Nat.le_refl _)) (Nat.ne_of_lt (Nat.lt_succ_self _)))).symm
  exact runMk (ks := []) (ws := []) (zs := []) ⟨mk, me.at_, me.fn, kp⟩ F hr hG (kb_pos b len) (hx σ) I1 r .nil rfl rfl q
/-- C() -/
theorem pe_mk0 {mg : Str → Option Value} (hmg : X.mg = mg) (M : MkC X.K X.mg x) (D : MCal X.prog X.w X.K X.mg X.base k x "__init__" ps sp) (hr : Room (k + 1) X.A) (hG : X.A.guards = some []) (hg : Gl X x) (hx : ∀ σ, PassesAt (L2.CX X.prog X.w) X σ (E σ))
    (hdb : (x == ("__debug__" : Str)) = false := by decide) : PE X (.Call (.Name x p) [] [] pos) (tMk mg x sp E tNil) := by
  subst hmg
  obtain ⟨C, f, fd, g, cl, me, _, b, F⟩ := D.ex
  obtain ⟨C', g', mk, kp⟩ := M.ex
  rw [g] at g'
  cases g'
  refine ⟨fun pins s σ H Q I h => wpAny_Call_Name_kw (ld_glob I hg g (PySem.W.callWith_K0 I.kIn kp ?_) hdb)⟩
  obtain ⟨C', g', q⟩ := h
  rw [g] at g'
  cases g'
  have len : ps.length = 0 + 1 := (F.len _ _ _ _ (q (s.heap.objs.size + 1) s.heap.objs.size (I.hok.fresh (Nat.le_succ _)) (I.hok.fresh (Nat.le_refl _)) (Nat.ne_of_lt (Nat.lt_succ_self _)))).symm
  exact runMk (ks := []) (ws := []) (zs := []) (us := []) (vs := []) ⟨mk, me.at_, me.fn, kp⟩ F hr hG (kb_pos b len) (hx σ) I .nil .nil rfl rfl q
/-- C(e, .., k = v, ..) -/
theorem pe_mkK {mg : Str → Option Value} (hmg : X.mg = mg) (M : MkC X.K X.mg x) (D : MCalK X.prog X.w X.K X.mg X.base k x "__init__" n ks is sp) (hr : Room (k + 1) X.A) (hG : X.A.guards = some []) (hg : Gl X x) (hx : ∀ σ, PassesAt (L2.CX X.prog X.w) X σ (E σ)) (ha : PA X (e :: es) t) (hkw : PK X kws tk)
    (hall : (backToKw pos (keywordEach kws X.env)).all (·.1.isSome) = true := by rfl) (hks : (backToKw pos (keywordEach kws X.env)).filterMap (·.1) = ks := by rfl)
    (hdb : (x == ("__debug__" : Str)) = false := by decide) (hs : starEach (e :: es) X.env = (false, eval e X.env) :: starEach es X.env := by rfl)
    (hp : ((backTo pos (starEach (e :: es) X.env)).any (·.1) || (backToKw pos (keywordEach kws X.env)).any (·.1.isNone)) = false := by rfl) :
    PE X (.Call (.Name x p) (e :: es) kws pos) (tMk mg x sp E (tKw n ks.length is t tk)) := by
  subst hmg
  obtain ⟨C, f, fd, ps, g, cl, me, b, F⟩ := D.ex
  obtain ⟨C', g', mk, kp⟩ := M.ex
  rw [g] at g'
  cases g'
  refine ⟨fun pins s σ H Q I h => wpAny_Call_Name_kw (ld_glob I hg g ?_ hdb)⟩
  refine PySem.W.callWith_KW (h₀ := X.base) I.ok.mod.kin kp hall (thn (ha.run pos pins s σ H _ I h) fun us s1 ⟨vs, H1, I1, r, q⟩ => ?_) hp hs
  refine thn (hkw.run pos pins s1 σ H1 _ I1 q) fun ws s2 ⟨zs, H2, I2, rz, l1, l2, C', g', q2⟩ => ⟨I2.kIn, ?_⟩
  rw [g] at g'
  cases g'
  rw [hks]
  exact runMk ⟨mk, me.at_, me.fn, kp⟩ F hr hG b (hx σ) I2 r rz l1 l2 q2
/-- C(k = v, ..) -/
theorem pe_mkK0 {mg : Str → Option Value} (hmg : X.mg = mg) (M : MkC X.K X.mg x) (D : MCalK X.prog X.w X.K X.mg X.base k x "__init__" 0 ks is sp) (hr : Room (k + 1) X.A) (hG : X.A.guards = some []) (hg : Gl X x) (hx : ∀ σ, PassesAt (L2.CX X.prog X.w) X σ (E σ)) (hkw : PK X kws tk)
    (hall : (backToKw pos (keywordEach kws X.env)).all (·.1.isSome) = true := by rfl) (hks : (backToKw pos (keywordEach kws X.env)).filterMap (·.1) = ks := by rfl)
    (hdb : (x == ("__debug__" : Str)) = false := by decide) (hp : ((backTo pos (starEach [] X.env)).any (·.1) || (backToKw pos (keywordEach kws X.env)).any (·.1.isNone)) = false := by rfl) :
    PE X (.Call (.Name x p) [] kws pos) (tMk mg x sp E (tKw 0 ks.length is tNil tk)) := by
  subst hmg
  obtain ⟨C, f, fd, ps, g, cl, me, b, F⟩ := D.ex
  obtain ⟨C', g', mk, kp⟩ := M.ex
  rw [g] at g'
  cases g'
  refine ⟨fun pins s σ H Q I h => wpAny_Call_Name_kw (ld_glob I hg g ?_ hdb)⟩
  refine PySem.W.callWith_KW0 (h₀ := X.base) I.ok.mod.kin kp hall ?_ hp
  refine thn (hkw.run pos pins s σ H _ I h) fun ws s2 ⟨zs, H2, I2, rz, l1, l2, C', g', q2⟩ => ⟨I2.kIn, ?_⟩
  rw [g] at g'
  cases g'
  rw [hks]
  exact runMk (us := []) (vs := []) ⟨mk, me.at_, me.fn, kp⟩ F hr hG b (hx σ) I2 .nil rz rfl l2 q2
end
end Fu
set_option Elab.async false
set_option linter.all false
set_option maxRecDepth 100000
set_option maxHeartbeats 4000000
namespace Fu
open PySem PySem.Spec PyProof.Rows L2 Hv
/-! # own operators, constants of classes, dicts compared -/
/-- nothing is raised -/
def XN : XK := fun _ _ _ => False
theorem passN' {X : Cx} : Passes (L2.CX X.prog X.w) X XN := fun _ _ _ _ _ _ _ ⟨_, _, _, _, _, _, _, _, _, _, _, _, no⟩ => no.elim
def rInO (K : PySem.W.Frag) (mg : Str → Option Value) (neg : Bool) (c : Str) (sp : Sp) : R2 := fun x y H Q => ∃ C, mg c = some (.ref C) ∧ rInOwn neg C sp XN x y H Q
def rLenO (mg : Str → Option Value) (c : Str) (sp : Sp) : List V → Hp → VK → Prop := fun xs H Q => ∃ C, mg c = some (.ref C) ∧ rLenOwn C sp XN xs H Q
def rEqO (K : PySem.W.Frag) (mg : Str → Option Value) (neg : Bool) (c : Str) (sp : Sp) : R2 := fun x y H Q => ∃ C, mg c = some (.ref C) ∧ rEqOwn K neg C sp XN x y H Q
/-- != of the class named c is made of its == -/
structure NeC (K : PySem.W.Frag) (mg : Str → Option Value) (c : Str) : Prop where
  ok : ∀ C, mg c = some (.ref C) → PySem.W.mroIn K C (.type "object") = some true ∧ PySem.W.findIn K (.ref C) "__ne__" = some (some (.builtin "object.__ne__"))
section
variable {X : Cx} {mg : Str → Option Value} {k : Nat} {c : Str} {ps : List Str} {sp : Sp}
theorem op_inO (hmg : X.mg = mg) (D : MCal X.prog X.w X.K X.mg X.base k c "__contains__" ps sp) (hr : Room k X.A) (hG : X.A.guards = some []) : OpR X (compareOp .In) (rInO X.K mg false c sp) := by
  subst hmg
  obtain ⟨C, f, fd, g, cl, me, _, b, F⟩ := D.ex
  intro pins s σ H x y v u Q I rx ry ⟨C', g', h⟩
  rw [g] at g'
  cases g'
  exact op_inOwn (F.at rfl hr hG b passN') me.at_ me.fn pins s σ H x y v u Q I rx ry h
theorem op_notInO (hmg : X.mg = mg) (D : MCal X.prog X.w X.K X.mg X.base k c "__contains__" ps sp) (hr : Room k X.A) (hG : X.A.guards = some []) : OpR X (compareOp .NotIn) (rInO X.K mg true c sp) := by
  subst hmg
  obtain ⟨C, f, fd, g, cl, me, _, b, F⟩ := D.ex
  intro pins s σ H x y v u Q I rx ry ⟨C', g', h⟩
  rw [g] at g'
  cases g'
  exact op_notInOwn (F.at rfl hr hG b passN') me.at_ me.fn pins s σ H x y v u Q I rx ry h
theorem call_lenO (hmg : X.mg = mg) (D : MCal X.prog X.w X.K X.mg X.base k c "__len__" ps sp) (hr : Room (k + 1) X.A) (hG : X.A.guards = some []) : CallR X (.builtin "len") (rLenO mg c sp) := by
  subst hmg
  obtain ⟨C, f, fd, g, cl, me, _, b, F⟩ := D.ex
  intro pins s σ H xs us Q I r ⟨C', g', h⟩
  rw [g] at g'
  cases g'
  exact call_lenOwn (F.at rfl hr.in1 hG b passN') me.at_ me.fn pins s σ H xs us Q I r h
theorem op_eqO (hmg : X.mg = mg) (D : MCal X.prog X.w X.K X.mg X.base k c "__eq__" ps sp) (hr : Room k X.A) (hG : X.A.guards = some []) : OpR X (compareOp .Eq) (rEqO X.K mg false c sp) := by
  subst hmg
  obtain ⟨C, f, fd, g, cl, me, _, b, F⟩ := D.ex
  intro pins s σ H x y v u Q I rx ry ⟨C', g', h⟩
  rw [g] at g'
  cases g'
  exact op_eqOwn (F.at rfl hr hG b passN') hr.units0 me.at_ me.fn pins s σ H x y v u Q I rx ry h
theorem op_neO (hmg : X.mg = mg) (D : MCal X.prog X.w X.K X.mg X.base k c "__eq__" ps sp) (N : NeC X.K X.mg c) (hr : Room (k + 1) X.A) (hG : X.A.guards = some []) : OpR X (compareOp .NotEq) (rEqO X.K mg true c sp) := by
  subst hmg
  obtain ⟨C, f, fd, g, cl, me, _, b, F⟩ := D.ex
  intro pins s σ H x y v u Q I rx ry ⟨C', g', h⟩
  rw [g] at g'
  cases g'
  obtain ⟨h1, h2⟩ := N.ok C g
  exact op_neOwn (F.at rfl hr.in1 hG b passN') (by have := hr.units; omega) h1 h2 me.at_ me.fn pins s σ H x y v u Q I rx ry h
end
section
variable {K : PySem.W.Frag} {mg : Str → Option Value} {E : L2.St → XK}
/-- a promise's answer that is true or false -/
def ansB (k : Bool → Store → Prop) : Rt → Store → Prop := fun r st => match r with
  | .fr (.bl b) => k b st
  | _ => False
def ansI (k : Int → Store → Prop) : Rt → Store → Prop := fun r st => match r with
  | .fr (.int b) => k b st
  | _ => False
theorem ansB_inv {k : Bool → Store → Prop} {r : Rt} {st : Store} (h : ansB k r st) : ∃ b, r = .fr (.bl b) ∧ k b st := by
  cases r with
  | ow t => exact (show False from h).elim
  | fr t => cases t with
    | bl b => exact ⟨b, rfl, h⟩
    | _ => exact (show False from h).elim
theorem ansI_inv {k : Int → Store → Prop} {r : Rt} {st : Store} (h : ansI k r st) : ∃ b, r = .fr (.int b) ∧ k b st := by
  cases r with
  | ow t => exact (show False from h).elim
  | fr t => cases t with
    | int b => exact ⟨b, rfl, h⟩
    | _ => exact (show False from h).elim
def dInO (n : Nat) (neg : Bool) (c : Str) (S : SpecT) (a b : DE) : DE := fun P X ev => a (fun t ev1 => b (fun u ev2 => seeI ev2 u c (2 = n ∧ S [u, t] ev2.st (ansB fun r st' => P (.bl (if neg then !r else r)) { ev2 with st := st' }) fun _ _ => False)) X ev1) X ev
theorem snd_inO {n : Nat} {neg : Bool} {c : Str} {S : SpecT} {ta tb : TE} {a b : DE} (h : Snd K mg E ta a) (k : Snd K mg E tb b) : Snd K mg E (tOp (rInO K mg neg c (spF K mg n S)) ta tb) (dInO n neg c S a b) := fun D as G ev σ H Q P X R hf hP hX =>
  h D as G ev σ H _ _ X R hf (fun t ev1 as1 G1 v1 H1 p R1 x1 tv => k D as1 G1 ev1 σ H1 _ _ X R1 p (fun u ev2 as2 G2 v2 H2 p R2 x2 tu => by
    obtain ⟨⟨hl, p⟩, a0, C, dx, fs, rfl, m, ci, at_⟩ := seeI_ok R2 tu p
    refine ⟨C, m, a0, dx, fs, rfl, at_, as2, G2, [u, t], ev2.st, _, _, hl, R2.s, .cons tu (.cons (tv.mono x2) .nil), p, fun r st' as' G' v H' q R' ch rc => ?_, fun x st' as' G' c oa H' q => q.elim⟩
    obtain ⟨b, rfl, q⟩ := ansB_inv q
    · cases (show TV K mg as' G' (.bl b) v from rc)
      exact ⟨b, rfl, hP _ _ as' G' _ H' q (R2.call R' ch) ((x1.trans x2).trans ch.ext) (.bl _)⟩) (hX.ext x1)) hX
def dLenO (n : Nat) (c : Str) (S : SpecT) (a : DE) : DE := fun P X ev => a (fun t ev1 => seeI ev1 t c (1 = n ∧ S [t] ev1.st (ansI fun r st' => 0 ≤ r ∧ r < 2 ^ 63 ∧ P (.int r) { ev1 with st := st' }) fun _ _ => False)) X ev
theorem snd_lenO {n : Nat} {c : Str} {S : SpecT} {ta : TE} {a : DE} (h : Snd K mg E ta a) : Snd K mg E (tCB (rLenO mg c (spF K mg n S)) (tCons ta tNil)) (dLenO n c S a) := fun D as G ev σ H Q P X R hf hP hX =>
  h D as G ev σ H _ _ X R hf (fun t ev1 as1 G1 v1 H1 p R1 x1 tv => by
    obtain ⟨⟨hl, p⟩, a0, C, dx, fs, rfl, m, ci, at_⟩ := seeI_ok R1 tv p
    refine ⟨C, m, a0, dx, fs, rfl, at_, as1, G1, [t], ev1.st, _, _, hl, R1.s, .cons tv .nil, p, fun r st' as' G' v H' q R' ch rc => ?_, fun x st' as' G' c oa H' q => q.elim⟩
    obtain ⟨b, rfl, q⟩ := ansI_inv q
    · cases (show TV K mg as' G' (.int b) v from rc)
      exact ⟨b, rfl, q.1, q.2.1, hP _ _ as' G' _ H' q.2.2 (R1.call R' ch) (x1.trans ch.ext) (.int _)⟩) hX
/-- what a thing may be that is compared with an instance of the class named c -/
structure NfF (K : PySem.W.Frag) (mg : Str → Option Value) (c : Str) (q : Tag → Bool) : Prop where
  ok : ∀ C g u, mg c = some (.ref C) → q g = true → TagV mg g u → PySem.W.notFirst K C u = true
def dEqO (n : Nat) (neg : Bool) (c : Str) (q : Tag → Bool) (S : SpecT) (a b : DE) : DE := fun P X ev => a (fun t ev1 => b (fun u ev2 => seeI ev2 t c (2 = n ∧ (∃ w g, deref ev2.st u = some w ∧ tagOf w = some g ∧ q g = true) ∧ S [t, u] ev2.st (ansB fun r st' => P (.bl (if neg then !r else r)) { ev2 with st := st' }) fun _ _ => False)) X ev1) X ev
theorem snd_eqO {n : Nat} {neg : Bool} {c : Str} {q : Tag → Bool} (Nf : NfF K mg c q) {S : SpecT} {ta tb : TE} {a b : DE} (h : Snd K mg E ta a) (k : Snd K mg E tb b) : Snd K mg E (tOp (rEqO K mg neg c (spF K mg n S)) ta tb) (dEqO n neg c q S a b) := fun D as G ev σ H Q P X R hf hP hX =>
  h D as G ev σ H _ _ X R hf (fun t ev1 as1 G1 v1 H1 p R1 x1 tv => k D as1 G1 ev1 σ H1 _ _ X R1 p (fun u ev2 as2 G2 v2 H2 p R2 x2 tu => by
    obtain ⟨⟨hl, ⟨w, g, e1, e2, e3⟩, p⟩, a0, C, dx, fs, rfl, m, ci, at_⟩ := seeI_ok R2 (tv.mono x2) p
    obtain ⟨ty, h1, h2⟩ := HV.ty R2.s.sub (deref_ok R2.s tu e1) e2
    refine ⟨C, m, a0, dx, fs, ty, rfl, at_, h2, Nf.ok C g ty m e3 h1, as2, G2, [t, u], ev2.st, _, _, hl, R2.s, .cons (tv.mono x2) (.cons tu .nil), p, fun r st' as' G' v H' q R' ch rc => ?_, fun x st' as' G' c oa H' q => q.elim⟩
    obtain ⟨b, rfl, q⟩ := ansB_inv q
    · cases (show TV K mg as' G' (.bl b) v from rc)
      exact ⟨b, rfl, hP _ _ as' G' _ H' q (R2.call R' ch) ((x1.trans x2).trans ch.ext) (.bl _)⟩) (hX.ext x1)) hX
/-! ## constants of classes -/
structure CcF (K : PySem.W.Frag) (mg : Str → Option Value) (q : Str → Str → Option T) : Prop where
  ok : ∀ c C f t, mg c = some (.ref C) → q c f = some t → ∃ mc v u, ClX.CRead K C mc ∧ ClX.CVal K C mc f v u ∧ ∀ as G, TV K mg as G t v
def dCc (q : Str → Str → Option T) (c f : Str) : DE := fun P X ev => ∃ t, q c f = some t ∧ P t ev
theorem snd_cc {q : Str → Str → Option T} (Q : CcF K mg q) {c f : Str} {C : Addr} (m : mg c = some (.ref C)) : Snd K mg E (ClX.tCVal K (tC (.ref C)) f) (dCc q c f) := fun D as G ev σ H Q' P X R ⟨t, e, p⟩ hP hX => by
  obtain ⟨mc, v, u, h1, h2, h3⟩ := Q.ok c C f t m e
  exact ⟨C, mc, v, u, rfl, h1, h2, hP t ev as G v H p R Ext.refl (h3 as G)⟩
/-! ## dicts compared -/
inductive KeqD (K : PySem.W.Frag) (H : Hp) (ls : List (Key × V)) : List (Key × V) → Bool → Prop
  | nil : KeqD K H ls [] true
  | miss {k : Key} {v : V} {r : List (Key × V)} : valV ls k = none → KeqD K H ls ((k, v) :: r) false
  | hit {k : Key} {v u : V} {d e : PyData} {b : Bool} {r : List (Key × V)} : valV ls k = some u → Dp K H v d → Dp K H u e → SeqAt.shaped d = true → SeqAt.shaped e = true → KeqD K H ls r b → KeqD K H ls ((k, v) :: r) (PyData.eqv d e && b)
def rEqK (K : PySem.W.Frag) (neg : Bool) : R2 := fun x y H Q => ∃ a b ks ls r, x = .ref a ∧ y = .ref b ∧ Rd H a (.dK ks) ∧ Rd H b (.dK ls) ∧ KeqD K H ls ks r ∧ Q (.bl (if neg then !(ks.length == ls.length && r) else ks.length == ls.length && r)) H
theorem KeqD.hits {X : Cx} {pins : List (Addr × Obj)} {σ : L2.St} {H : Hp} {s : Shared} {A : Around} (I : Inv X pins σ H s) (hu : A.in1.units + 64 < cLine) {ls : List (Key × V)} {vb : List (Key × Value)} (rb : KV ls vb) : ∀ {ks : List (Key × V)} {r : Bool}, KeqD X.K H ls ks r → ∀ {va : List (Key × Value)}, KV ks va → PySem.W.KeqHits A.in1 s vb va r
  | _, _, .nil, va, ra => by cases ra; exact .nil
  | (k, v) :: ks, _, .miss hn, va, ra => by
    cases ra with
    | @cons p q ps qs h t =>
      obtain ⟨h1, h2⟩ := h
      obtain ⟨k2, w⟩ := q
      cases (show k = k2 from h1)
      have rr : RelO (valV ls k) (valueAt vb k) := rb.val k
      rw [hn] at rr
      exact .miss rr.none_of
  | (k, v) :: ks, _, .hit hs hd he sd se hr, va, ra => by
    cases ra with
    | @cons p q ps qs h t =>
      obtain ⟨h1, h2⟩ := h
      obtain ⟨k2, w⟩ := q
      cases (show k = k2 from h1)
      have rr : RelO (valV ls k) (valueAt vb k) := rb.val k
      rw [hs] at rr
      obtain ⟨y, hy, ry⟩ := rr.some_of
      obtain ⟨as, r1⟩ := Dp.reads I _ _ _ hd h2
      obtain ⟨bs, r2⟩ := Dp.reads I _ _ _ he ry
      exact .hit hy (PySem.W.keq_at (A := A) r1 r2 sd se hu) (KeqD.hits I hu rb hr t)
theorem op_eqK {X : Cx} (hu : X.A.units + 128 < cLine) : OpR X (compareOp .Eq) (rEqK X.K false) := by
  intro pins s σ H x y v u Q I rx ry ⟨a, b, ks, ls, r, ex, ey, ha, hb, hk, q⟩
  subst ex ey
  cases (show v = Value.ref a from rx)
  cases (show u = Value.ref b from ry)
  obtain ⟨_, ya, va, ra, da⟩ := dk_rd I.hok ha
  obtain ⟨_, yb, vb, rb, db⟩ := dk_rd I.hok hb
  refine PySem.W.keq_eq (knd := mixKind X.prog X.w) (r := r) ya yb da db (by omega) (fun _ => hk.hits (A := X.A) I (by show X.A.units + 1 + 64 < cLine; omega) rb ra) ⟨.bl _, H, I, rfl, ?_⟩
  rw [show (va.length == vb.length && r) = (ks.length == ls.length && r) from by rw [← ra.length, ← rb.length]]
  exact q
theorem op_neK {X : Cx} (hu : X.A.units + 128 < cLine) : OpR X (compareOp .NotEq) (rEqK X.K true) := by
  intro pins s σ H x y v u Q I rx ry ⟨a, b, ks, ls, r, ex, ey, ha, hb, hk, q⟩
  subst ex ey
  cases (show v = Value.ref a from rx)
  cases (show u = Value.ref b from ry)
  obtain ⟨_, ya, va, ra, da⟩ := dk_rd I.hok ha
  obtain ⟨_, yb, vb, rb, db⟩ := dk_rd I.hok hb
  refine PySem.W.keq_ne (knd := mixKind X.prog X.w) (r := r) ya yb da db (by omega) (fun _ => hk.hits (A := X.A) I (by show X.A.units + 1 + 64 < cLine; omega) rb ra) ⟨.bl _, H, I, rfl, ?_⟩
  rw [show (!(va.length == vb.length && r)) = (!(ks.length == ls.length && r)) from by rw [← ra.length, ← rb.length]]
  exact q
/-- all of ks stands in ls, too -/
def keqT (ls : List (Key × T)) : List (Key × T) → Option Bool
  | [] => some true
  | (k, v) :: r => match valT ls k with
    | none => some false
    | some u => match toP v, toP u with
      | some d, some e => if SeqAt.shaped d && SeqAt.shaped e then (keqT ls r).map (PyData.eqv d e && ·) else none
      | _, _ => none
theorem keqT_ok {as : List Addr} {G H : Hp} (s : Same G H) {lts : List (Key × T)} {ls : List (Key × V)} (hl : TKs K mg as G lts ls) : ∀ {kts : List (Key × T)} {ks : List (Key × V)} {b : Bool}, TKs K mg as G kts ks → keqT lts kts = some b → KeqD K H ls ks b
  | [], ks, b, h, e => by
    obtain ⟨h1, h2⟩ := h
    cases ks with
    | nil => cases e; exact .nil
    | cons _ _ => simp at h1
  | (k, t) :: kts, ks, b, h, e => by
    obtain ⟨h1, h2⟩ := h
    cases ks with
    | nil => simp at h1
    | cons q ks =>
      obtain ⟨k2, v⟩ := q
      have e1 := List.cons.inj h1
      cases (show k = k2 from e1.1)
      obtain ⟨v1, us, e2, tv, b2⟩ := TVs.cons' h2
      cases e2
      unfold keqT at e
      rcases hl.val k with ⟨n1, n2⟩ | ⟨t2, v2, n1, n2, n3⟩
      · rw [n1] at e
        cases e
        exact .miss n2
      · rw [n1] at e
        dsimp only at e
        split at e
        · rename_i d e' hd he
          split at e
          · rename_i hs
            rw [Bool.and_eq_true] at hs
            rw [Option.map_eq_some_iff] at e
            obtain ⟨b', e3, rfl⟩ := e
            exact .hit n2 (HV.dp s (HV.of s tv) hd) (HV.dp s (HV.of s n3) he) hs.1 hs.2 (keqT_ok s hl ⟨e1.2, b2⟩ e3)
          · cases e
        · cases e
def gEqK (neg : Bool) : G2 := fun x y P => match x, y with
  | .dct ks, .dct ls => ∃ b, keqT ls ks = some b ∧ P (.bl (if neg then !(ks.length == ls.length && b) else ks.length == ls.length && b))
  | _, _ => False
theorem os_eqK {neg : Bool} : OpS K mg (rEqK K neg) (gEqK neg) := fun D as G ev σ H tx ty x y P Q R hx hy h q => by
  cases tx with
  | dct ks => cases ty with
    | dct ls =>
    obtain ⟨b, e, h⟩ := h
    obtain ⟨a, k1, rfl, h1, h2, h3⟩ := hx
    obtain ⟨a', k2, rfl, h4, h5, h6⟩ := hy
    have l1 : k1.length = ks.length := by have := congrArg List.length h2; simpa using this.symm
    have l2 : k2.length = ls.length := by have := congrArg List.length h5; simpa using this.symm
    refine ⟨a, a', k1, k2, b, rfl, rfl, h1, h4, keqT_ok R.s.sub ⟨h5, h6⟩ ⟨h2, h3⟩ e, ?_⟩
    rw [l1, l2]
    exact q _ _ G H h R Ext.refl (.bl _)
    | _ => exact (show False from h).elim
  | _ => exact (show False from h).elim
end
end Fu
set_option Elab.async false
set_option linter.all false
set_option maxRecDepth 100000
set_option maxHeartbeats 4000000
namespace Fu
open PySem PySem.Spec PyProof.Rows L2 Hv
/-! # comprehensions with two loops -/
section
variable {K : PySem.W.Frag} {mg : Str → Option Value} {E : L2.St → XK}
theorem wipe_sub {vs1 vs : List Nat} (h : ∀ i ∈ vs1, i ∈ vs) (σ : L2.St) : wipe (wipe σ vs1) vs = wipe σ vs := by
  apply List.ext_getElem?
  intro i
  rw [wipe_get, wipe_get, wipe_get]
  by_cases n : i ∈ vs
  · rw [if_pos n, if_pos n]
    by_cases z : i ∈ vs1
    · rw [if_pos z]
      cases σ[i]? <;> rfl
    · rw [if_neg z]
  · rw [if_neg n, if_neg n, if_neg fun z => n (h i z)]
/-- the list at Da that is being made -/
structure Acc (K : PySem.W.Frag) (mg : Str → Option Value) (D : En) (Da : Addr) (as : List Addr) (G : Hp) (ev : Ev) (σ : L2.St) (acc : List T) (us : List V) (H : Hp) : Prop where
  R : Rel K mg D as G ev σ H
  tv : TVs K mg as G acc us
  at_ : H Da = some (.lst us)
  na : Da ∉ as
  g : G Da = none
  nw : ¬ InOw ev σ Da
theorem Acc.wipe {D : En} {Da : Addr} {as : List Addr} {G : Hp} {ev : Ev} {σ : L2.St} {acc : List T} {us : List V} {H : Hp} {vs : List Nat} (a : Acc K mg D Da as G ev σ acc us H) : Acc K mg D Da as G (wiped vs ev) (wipe σ vs) acc us H :=
  ⟨a.R.wipe, a.tv, a.at_, a.na, a.g, notOw_wipe a.nw⟩
theorem Acc.push {D : En} {Da : Addr} {as : List Addr} {G : Hp} {ev : Ev} {σ : L2.St} {acc : List T} {us : List V} {H : Hp} {t : T} {v : V} (nD : D.H Da = none) (a : Acc K mg D Da as G ev σ acc us H) (h : TV K mg as G t v) : Acc K mg D Da as G ev σ (acc ++ [t]) (us ++ [v]) (upd H Da (.lst (us ++ [v]))) :=
  ⟨a.R.chg (u := .lst (us ++ [v])) (t := .lst acc) ⟨⟨_, a.at_, .lst a.tv⟩, a.g, a.na, nD⟩ a.nw, a.tv.app (.cons h .nil), upd_same, a.na, a.g, a.nw⟩
theorem SameD.prot {D : En} {a : Addr} {us : List V} {G H : Hp} (s : SameD D G H) : SameD (Fu.prot D a (.lst us)) G H := ⟨s.s, fun b ob u e => s.lk b ob u (by
  have e : (upd D.H a (.lst us)) b = _ := e
  by_cases z : b = a
  · rw [z, upd_same] at e; cases e
  · rw [upd_ne z] at e; exact e)⟩
theorem Wk.unprot {D : En} {a : Addr} {us : List V} {J : It} {items : List T} {as : List Addr} {G : Hp} (W : Wk K mg (prot D a (.lst us)) J items as G) : Wk K mg D J items as G :=
  ⟨fun as2 G2 H2 i t x s e => W.go as2 G2 H2 i t x s.prot e, fun as2 G2 H2 x s => W.stop as2 G2 H2 x s.prot⟩
/-- the inner loop -/
theorem lc_loop {D : En} {Da : Addr} (nD : D.H Da = none) {J : It} {items : List T} {as1 : List Addr} {G1 : Hp} (W : Wk K mg D J items as1 G1) {g : TG} {d : DG} {tt : TT} {dt : DT} {te : TE} {f : DE} {vs : List Nat} {σ : L2.St} (hg : SndW K mg E0 vs g d) (ht : SndT K mg E0 tt dt) (he : Snd K mg E0 te f)
    {Iv : Nat → List T → Ev → Prop} (hs : ∀ (i : Nat) t acc ev2, items[i]? = some t → Iv i acc ev2 → d t (fun ev3 => dt (fun b ev4 => if b = true then f (fun r ev5 => acc.length < sizeLine ∧ Iv (i + 1) (acc ++ [r]) (wiped vs ev5)) X0 ev4 else Iv (i + 1) acc (wiped vs ev4)) X0 ev3) X0 ev2)
    {Nx : Hp → Prop} (hd : ∀ as2 G2 ev2 acc us H, Ext as1 G1 as2 G2 → Acc K mg D Da as2 G2 ev2 (wipe σ vs) acc us H → Iv items.length acc ev2 → Nx H)
    {ev0 : Ev} {acc0 : List T} {us0 : List V} {H0 : Hp} (A0 : Acc K mg D Da as1 G1 ev0 (wipe σ vs) acc0 us0 H0) (h0 : Iv 0 acc0 ev0) :
    ∃ W1 : Nat → Nat → Hp → Prop, (∃ m, W1 0 m H0) ∧ ∀ j k H, W1 j k H →
      (J.stop j H ∧ Nx H) ∨ (J.go j H ∧ ∃ Nx1 : Hp → Prop, (∀ H', Nx1 H' → ∃ k', k' < k ∧ W1 (j + 1) k' H') ∧ ∀ x H', J.yld j H x H' → g x (wipe σ vs) H' fun σ3 H5 => wipe σ3 vs = wipe σ vs ∧ tt σ3 H5 fun b H6 =>
        if b = true then te σ3 H6 fun y H7 => ∃ acc, H7 Da = some (.lst acc) ∧ acc.length < sizeLine ∧ Nx1 (upd H7 Da (.lst (acc ++ [y]))) else Nx1 H6) := by
  refine ⟨fun i m H' => i + m = items.length ∧ ∃ as2 G2 ev2 acc us, Ext as1 G1 as2 G2 ∧ Acc K mg D Da as2 G2 ev2 (wipe σ vs) acc us H' ∧ Iv i acc ev2, ⟨items.length, Nat.zero_add _, as1, G1, ev0, acc0, us0, Ext.refl, A0, h0⟩, ?_⟩
  rintro i m H' ⟨im, as2, G2, ev2, acc, us, x2, A2, iv⟩
  cases m with
  | zero =>
    obtain rfl : i = items.length := im
    exact .inl ⟨W.stop as2 G2 H' x2 ⟨A2.R.s.sub, A2.R.c.lk⟩, hd as2 G2 ev2 acc us H' x2 A2 iv⟩
  | succ m =>
    have hlt : i < items.length := by omega
    have e : items[i]? = some items[i] := List.getElem?_eq_getElem hlt
    obtain ⟨go, yl⟩ := W.go as2 G2 H' i _ x2 ⟨A2.R.s.sub, A2.R.c.lk⟩ e
    have turn : ∀ {G3 : Hp} {x : V} {H3 : Hp}, Rel K mg D as2 G3 ev2 (wipe σ vs) H3 → Ext as2 G2 as2 G3 → TV K mg as2 G3 items[i] x → H3 Da = some (.lst us) → G3 Da = none →
        g x (wipe σ vs) H3 fun σ2 H2 => wipe σ2 vs = wipe σ vs ∧ tt σ2 H2 fun b H3 => if b = true then te σ2 H3 fun y H4 => ∃ acc, H4 Da = some (.lst acc) ∧ acc.length < sizeLine ∧
          ((i + 1) + m = items.length ∧ ∃ as2 G2 ev2 ac us, Ext as1 G1 as2 G2 ∧ Acc K mg D Da as2 G2 ev2 (wipe σ vs) ac us (upd H4 Da (.lst (acc ++ [y]))) ∧ Iv (i + 1) ac ev2)
          else ((i + 1) + m = items.length ∧ ∃ as2 G2 ev2 ac us, Ext as1 G1 as2 G2 ∧ Acc K mg D Da as2 G2 ev2 (wipe σ vs) ac us H3 ∧ Iv (i + 1) ac ev2) := by
      intro G3 x H3 R3 x3 tv hDa3 gD3
      have R3p := R3.prot hDa3 nD A2.na gD3 A2.nw
      obtain ⟨o1, o2⟩ := A2.R.out A2.na A2.g
      refine hg _ as2 G3 ev2 (wipe σ vs) H3 _ x _ X0 _ R3p tv (hs i _ acc ev2 e iv) fun ev4 as4 G4 σ4 H4 p4 R4 x4 w4 => ⟨by rw [w4, wipe_wipe], ?_⟩
      refine ht _ as4 G4 ev4 σ4 H4 _ _ X0 R4 p4 (fun b ev5 as5 G5 H5 p5 R5 x5 => ?_) px0
      cases b with
      | false =>
        rw [if_neg (by simp)] at p5 ⊢
        obtain ⟨R6, h6, n6, g6, nw6⟩ := R5.unprot nD o1 o2
        have A7 := (Acc.mk R6 (A2.tv.mono ((x3.trans x4).trans x5)) h6 n6 g6 nw6).wipe (vs := vs)
        rw [w4, wipe_wipe] at A7
        exact ⟨by omega, as5, G5, _, acc, us, (((x2.trans x3).trans x4).trans x5), A7, p5⟩
      | true =>
        rw [if_pos rfl] at p5 ⊢
        refine he _ as5 G5 ev5 σ4 H5 _ _ X0 R5 p5 (fun r ev6 as6 G6 y H6 p6 R6 x6 tv6 => ?_) px0
        obtain ⟨R7, h7, n7, g7, nw7⟩ := R6.unprot nD o1 o2
        have A8 := ((Acc.mk R7 (A2.tv.mono (((x3.trans x4).trans x5).trans x6)) h7 n7 g7 nw7).push nD tv6).wipe (vs := vs)
        rw [w4, wipe_wipe] at A8
        exact ⟨us, h7, by rw [← A2.tv.length]; exact p6.1, by omega, as6, G6, _, acc ++ [r], us ++ [y], ((((x2.trans x3).trans x4).trans x5).trans x6), A8, p6.2⟩
    refine .inr ⟨go, _, fun H'' z => ⟨m, Nat.lt_succ_self m, z⟩, fun x H3 y => ?_⟩
    rcases yl x H3 y with ⟨rfl, tv⟩ | ⟨p, o, hp, rfl, tv⟩
    · exact turn A2.R Ext.refl tv A2.at_ A2.g
    · have np : Da ≠ p := fun z => by have := A2.at_; rw [z, hp] at this; cases this
      exact turn (A2.R.fz hp) (Ext.new (A2.R.s.sub.free hp)) tv (by rw [upd_ne np]; exact A2.at_) (by rw [upd_ne np]; exact A2.g)
def dLc2 (it : DI) (g : DG) (tt : DT) (it1 : DI) (g1 : DG) (tt1 : DT) (te : DE) (vs vs1 : List Nat) : DE := fun P X ev => it (fun items ev1 => ∃ Iv : Nat → List T → Ev → Prop, Iv 0 [] (wiped vs ev1) ∧
  (∀ (i : Nat) t acc ev2, items[i]? = some t → Iv i acc ev2 → g t (fun ev3 => tt (fun b ev4 => if b = true then it1 (fun items1 ev5 => ∃ Iw : Nat → List T → Ev → Prop, Iw 0 acc (wiped vs1 ev5) ∧
      (∀ (j : Nat) u acc' ev6, items1[j]? = some u → Iw j acc' ev6 → g1 u (fun ev7 => tt1 (fun b1 ev8 => if b1 = true then te (fun r ev9 => acc'.length < sizeLine ∧ Iw (j + 1) (acc' ++ [r]) (wiped vs1 ev9)) X0 ev8 else Iw (j + 1) acc' (wiped vs1 ev8)) X0 ev7) X0 ev6) ∧
      ∀ acc' ev6, Iw items1.length acc' ev6 → Iv (i + 1) acc' (wiped vs ev6)) X0 ev4
    else Iv (i + 1) acc (wiped vs ev4)) X0 ev3) X0 ev2) ∧
  ∀ acc ev2, Iv items.length acc ev2 → P (.lst acc) (unw vs ev1 ev2)) X ev
theorem snd_lc2 {wi wi1 : TI} {g g1 : TG} {tt tt1 : TT} {te : TE} {vs vs1 : List Nat} {it it1 : DI} {d d1 : DG} {dt dt1 : DT} {f : DE} (hv : ∀ i ∈ vs1, i ∈ vs) (hi : SndI K mg E wi it) (hg : SndW K mg E0 vs g d) (ht : SndT K mg E0 tt dt) (hi1 : SndI K mg E0 wi1 it1) (hg1 : SndW K mg E0 vs1 g1 d1) (ht1 : SndT K mg E0 tt1 dt1) (he : Snd K mg E0 te f) :
    SndN K mg E (tLc2 wi g tt wi1 g1 tt1 te vs vs1) (dLc2 it d dt it1 d1 dt1 f vs vs1) := fun D as G ev σ H Q P X R hf hP hX =>
  hi D as G ev σ H _ _ X R hf (fun items ev1 as1 G1 J H1 ⟨Iv, h0, hs, hd⟩ R1 x1 W Da hD => by
    have nD : D.H Da = none := R1.c.keep Da hD
    refine ⟨fun i m H' => i + m = items.length ∧ ∃ as2 G2 ev2 acc us, Ext as1 G1 as2 G2 ∧ Acc K mg D Da as2 G2 ev2 (wipe σ vs) acc us H' ∧ Iv i acc ev2,
      ⟨items.length, Nat.zero_add _, as1, G1, _, [], [], Ext.refl, ⟨(R1.new hD).wipe, .nil, upd_same, fun z => (R1.s.mem z).1 hD, R1.s.sub.free hD, notOw_wipe (R1.notOw hD)⟩, h0⟩, ?_⟩
    rintro i m H' ⟨im, as2, G2, ev2, acc, us, x2, A2, iv⟩
    cases m with
    | zero =>
      obtain rfl : i = items.length := im
      exact .inl ⟨W.stop as2 G2 H' x2 ⟨A2.R.s.sub, A2.R.c.lk⟩, hP _ _ as2 G2 Da H' (hd acc ev2 iv) (A2.R.unwipe R1 x2) (x1.trans x2) ⟨⟨_, A2.at_, .lst A2.tv⟩, A2.g, A2.na, nD⟩ (notOw_un A2.nw)⟩
    | succ m =>
      have hlt : i < items.length := by omega
      have e : items[i]? = some items[i] := List.getElem?_eq_getElem hlt
      obtain ⟨go, yl⟩ := W.go as2 G2 H' i _ x2 ⟨A2.R.s.sub, A2.R.c.lk⟩ e
      have turn : ∀ {G3 : Hp} {x : V} {H3 : Hp}, Rel K mg D as2 G3 ev2 (wipe σ vs) H3 → Ext as2 G2 as2 G3 → TV K mg as2 G3 items[i] x → H3 Da = some (.lst us) → G3 Da = none →
          g x (wipe σ vs) H3 fun σ2 H2 => wipe σ2 vs = wipe σ vs ∧ tt σ2 H2 fun b H3 => if b = true then wi1 σ2 H3 fun J1 H4 => ∃ W1 : Nat → Nat → Hp → Prop, (∃ m, W1 0 m H4) ∧ ∀ j k H, W1 j k H →
            (J1.stop j H ∧ ((i + 1) + m = items.length ∧ ∃ as2 G2 ev2 ac us, Ext as1 G1 as2 G2 ∧ Acc K mg D Da as2 G2 ev2 (wipe σ vs) ac us H ∧ Iv (i + 1) ac ev2)) ∨ (J1.go j H ∧ ∃ Nx1 : Hp → Prop, (∀ H', Nx1 H' → ∃ k', k' < k ∧ W1 (j + 1) k' H') ∧ ∀ x H', J1.yld j H x H' → g1 x (wipe σ2 vs1) H' fun σ3 H5 => wipe σ3 vs1 = wipe σ2 vs1 ∧ tt1 σ3 H5 fun b H6 =>
              if b = true then te σ3 H6 fun y H7 => ∃ acc, H7 Da = some (.lst acc) ∧ acc.length < sizeLine ∧ Nx1 (upd H7 Da (.lst (acc ++ [y]))) else Nx1 H6)
            else ((i + 1) + m = items.length ∧ ∃ as2 G2 ev2 ac us, Ext as1 G1 as2 G2 ∧ Acc K mg D Da as2 G2 ev2 (wipe σ vs) ac us H3 ∧ Iv (i + 1) ac ev2) := by
        intro G3 x H3 R3 x3 tv hDa3 gD3
        have R3p := R3.prot hDa3 nD A2.na gD3 A2.nw
        obtain ⟨o1, o2⟩ := A2.R.out A2.na A2.g
        refine hg _ as2 G3 ev2 (wipe σ vs) H3 _ x _ X0 _ R3p tv (hs i _ acc ev2 e iv) fun ev4 as4 G4 σ4 H4 p4 R4 x4 w4 => ⟨by rw [w4, wipe_wipe], ?_⟩
        refine ht _ as4 G4 ev4 σ4 H4 _ _ X0 R4 p4 (fun b ev5 as5 G5 H5 p5 R5 x5 => ?_) px0
        cases b with
        | false =>
          rw [if_neg (by simp)] at p5 ⊢
          obtain ⟨R6, h6, n6, g6, nw6⟩ := R5.unprot nD o1 o2
          have A7 := (Acc.mk R6 (A2.tv.mono ((x3.trans x4).trans x5)) h6 n6 g6 nw6).wipe (vs := vs)
          rw [w4, wipe_wipe] at A7
          exact ⟨by omega, as5, G5, _, acc, us, (((x2.trans x3).trans x4).trans x5), A7, p5⟩
        | true =>
          rw [if_pos rfl] at p5 ⊢
          refine hi1 _ as5 G5 ev5 σ4 H5 _ _ X0 R5 p5 (fun items1 ev6 as6 G6 J1 H6 ⟨Iw, w0, ws, wd⟩ R6 x6 W6 => ?_) px0
          obtain ⟨R7, h7, n7, g7, nw7⟩ := R6.unprot nD o1 o2
          have A7 := (Acc.mk R7 (A2.tv.mono (((x3.trans x4).trans x5).trans x6)) h7 n7 g7 nw7).wipe (vs := vs1)
          have W6 := W6.unprot
          refine lc_loop nD W6 hg1 ht1 he ws (fun as8 G8 ev8 acc8 us8 H8 x8 A8 w8 => ?_) A7 w0
          have A9 := A8.wipe (vs := vs)
          rw [wipe_sub hv, w4, wipe_wipe] at A9
          exact ⟨by omega, as8, G8, _, acc8, us8, (((((x2.trans x3).trans x4).trans x5).trans x6).trans x8), A9, wd acc8 ev8 w8⟩
      refine .inr ⟨go, _, fun H'' z => ⟨m, Nat.lt_succ_self m, z⟩, fun x H3 y => ?_⟩
      rcases yl x H3 y with ⟨rfl, tv⟩ | ⟨p, o, hp, rfl, tv⟩
      · exact turn A2.R Ext.refl tv A2.at_ A2.g
      · have np : Da ≠ p := fun z => by have := A2.at_; rw [z, hp] at this; cases this
        exact turn (A2.R.fz hp) (Ext.new (A2.R.s.sub.free hp)) tv (by rw [upd_ne np]; exact A2.at_) (by rw [upd_ne np]; exact A2.g)) hX
end
end Fu
set_option Elab.async false
set_option linter.all false
set_option maxRecDepth 100000
set_option maxHeartbeats 4000000
namespace Fu
open PySem PySem.Spec PyProof.Rows L2 Hv
/-! # exceptions that are caught -/
section
variable {K : PySem.W.Frag} {mg : Str → Option Value} {E : L2.St → XK}
/-- whom the clause 'except c' catches -/
structure HdF (K : PySem.W.Frag) (mg : Str → Option Value) (c : Value) (q : Str → Option Bool) : Prop where
  ok : ∀ x C b, mg x = some (.ref C) → q x = some b → PySem.W.exmOne K (.ref C) c = some b
theorem XV.tv {as : List Addr} {G : Hp} {x : Exn} {c : Value} {oa : Option Addr} (h : XV K mg G as x c oa) (a : Addr) : TV K mg as G (.exc a oa x.cls x.fs) (.ref a) := by
  obtain ⟨C, m, rfl, h⟩ := h
  rcases h with ⟨e, rfl⟩ | ⟨n, fs, rfl, g, e, tv⟩
  · rw [e]; exact .exc m
  · exact .excD m g e tv
def dTryAs (q : Str → Option Bool) (i : Nat) (body : DS) (su : Addr → Option Addr → Str → DS) : DS := fun P ev => body { P with ex := fun x ev1 => match q x.cls with
  | some true => ∀ a d, su a d x.cls { nx := fun ev2 => P.nx { ev2 with env := ev2.env.set i .no }, rt := P.rt, bk := fun ev2 => P.bk { ev2 with env := ev2.env.set i .no }, ct := fun ev2 => P.ct { ev2 with env := ev2.env.set i .no }, ex := X0 } { ev1 with env := ev1.env.set i (.fr (.exc a d x.cls x.fs)) }
  | some false => P.ex x ev1
  | none => False } ev
theorem snd_tryAs {c : Value} {q : Str → Option Bool} (Hd : HdF K mg c q) {i : Nat} {tb : WX → TS} {fb : DS} {ts : Addr → Value → Option Addr → TS} {su : Addr → Option Addr → Str → DS} {Wout : WX} (hb : ∀ W, SndS K mg (WE W) (tb W) fb) (hs : ∀ a d x C, mg x = some (.ref C) → SndS K mg E0 (ts a (.ref C) d) (su a d x)) :
    SndS K mg (WE Wout) (fun D σ H => tb (wAs K c i ts Wout D) D σ H) (dTryAs q i fb su) := fun D as G ev σ H Dn P R h F =>
  hb _ D as G ev σ H Dn _ R h ⟨F.nx, F.bk, F.ct, F.rt, fun x ev1 as' G' σ' cls oa H' p R' x1 xv => by
    obtain ⟨C, m, ec, hx⟩ := id xv
    cases e : q x.cls with
    | none => simp only [e] at p
    | some b =>
      simp only [e] at p
      refine ⟨b, by rw [ec]; exact Hd.ok _ _ _ m e, fun hb a ha => ?_, fun hb => ?_⟩
      · subst hb ec
        exact hs a oa x.cls C m D as' G' _ _ H' _ _ (R'.setF (xv.tv a)) (p a oa) ⟨fun ev2 as2 G2 σ2 H2 q R2 x2 => F.nx _ as2 G2 _ H2 q (R2.setNo i none) (x1.trans x2), fun ev2 as2 G2 σ2 H2 q R2 x2 => F.bk _ as2 G2 _ H2 q (R2.setNo i none) (x1.trans x2), fun ev2 as2 G2 σ2 H2 q R2 x2 => F.ct _ as2 G2 _ H2 q (R2.setNo i none) (x1.trans x2), fun r ev2 as2 G2 σ2 v H2 q R2 x2 rv => F.rt r ev2 as2 G2 σ2 v H2 q R2 (x1.trans x2) rv, fun _ _ _ _ _ _ _ _ z => z.elim⟩
      · subst hb
        exact F.ex x ev1 as' G' σ' cls oa H' p R' x1 xv⟩
/-- without a name -/
def dTryO (q : Str → Option Bool) (body : DS) (su : DS) : DS := fun P ev => body { P with ex := fun x ev1 => match q x.cls with
  | some true => su { P with ex := X0 } ev1
  | some false => P.ex x ev1
  | none => False } ev
theorem snd_tryO {c : Value} {q : Str → Option Bool} (Hd : HdF K mg c q) {tb : WX → TS} {fb : DS} {ts : Addr → Value → Option Addr → TS} {su : DS} {Wout : WX} (hb : ∀ W, SndS K mg (WE W) (tb W) fb) (hs : ∀ a d C, SndS K mg E0 (ts a C d) su) :
    SndS K mg (WE Wout) (fun D σ H => tb (wOnly K c ts Wout D) D σ H) (dTryO q fb su) := fun D as G ev σ H Dn P R h F =>
  hb _ D as G ev σ H Dn _ R h ⟨F.nx, F.bk, F.ct, F.rt, fun x ev1 as' G' σ' cls oa H' p R' x1 xv => by
    obtain ⟨C, m, ec, hx⟩ := id xv
    cases e : q x.cls with
    | none => simp only [e] at p
    | some b =>
      simp only [e] at p
      refine ⟨b, by rw [ec]; exact Hd.ok _ _ _ m e, fun hb a ha => ?_, fun hb => ?_⟩
      · subst hb
        exact hs a oa cls D as' G' _ _ H' _ _ R' p ⟨fun ev2 as2 G2 σ2 H2 q R2 x2 => F.nx _ as2 G2 _ H2 q R2 (x1.trans x2), fun ev2 as2 G2 σ2 H2 q R2 x2 => F.bk _ as2 G2 _ H2 q R2 (x1.trans x2), fun ev2 as2 G2 σ2 H2 q R2 x2 => F.ct _ as2 G2 _ H2 q R2 (x1.trans x2), fun r ev2 as2 G2 σ2 v H2 q R2 x2 rv => F.rt r ev2 as2 G2 σ2 v H2 q R2 (x1.trans x2) rv, fun _ _ _ _ _ _ _ _ z => z.elim⟩
      · subst hb
        exact F.ex x ev1 as' G' σ' cls oa H' p R' x1 xv⟩
/-! ## its attributes -/
structure XfF (K : PySem.W.Frag) (mg : Str → Option Value) (q : Str → List Str) : Prop where
  ok : ∀ x C f, mg x = some (.ref C) → f ∈ q x → XfC K C ∧ PySem.W.findIn K (.ref C) f = some none
def tXfA (K : PySem.W.Frag) (a : Addr) (cls : Value) (d : Option Addr) (f : Str) (i : Nat) : TE := fun σ H Q => σ[i]? = some (some (.ref a)) ∧ ∃ C, cls = .ref C ∧ XfC K C ∧ PySem.W.findIn K (.ref C) f = some none ∧ ∃ (dd : Addr) (fs : List (Str × V)) (v : V), d = some dd ∧ H dd = some (.xd fs) ∧ fs.lookup f = some v ∧ Q v H
theorem pe_xfA {X : Cx} {a : Addr} {oe : Obj} {cls : Value} {d : Option Addr} {pn : List (Addr × Obj)} {e : Expr} {i : Nat} {pos : Pos} {n : Str} (hz : Zc cls d oe) (hf : ∃ vs, oe.data = .fields vs) (he : PE (X.suite a ((a, oe) :: pn)) e (tVar i)) (hb : attributeBase e n X.env (eval e X.env) = eval e X.env := by rfl) :
    PE (X.suite a ((a, oe) :: pn)) (.Attribute e n pos) (tXfA X.K a cls d n i) :=
  ⟨fun pins s σ H Q I ⟨ei, C, ec, T, hno, dd, fs, v, ed, hd, l, q⟩ => (pe_xf (C := C) T hno hz hf he hb).run pins s σ H Q I ⟨.ref a, ei, rfl, ec, dd, fs, v, ed, hd, l, q⟩⟩
def dXf (q : Str → List Str) (a : Addr) (d : Option Addr) (x f : Str) (i : Nat) : DE := fun P _ ev => match ev.env[i]? with
  | some (.fr (.exc a' d' x' fts)) => a' = a ∧ d' = d ∧ x' = x ∧ f ∈ q x ∧ ∃ u, fts.lookup f = some u ∧ P u ev
  | _ => False
theorem snd_xf {q : Str → List Str} (Q : XfF K mg q) {a : Addr} {d : Option Addr} {x f : Str} {i : Nat} {C : Addr} (m : mg x = some (.ref C)) : Snd K mg E (tXfA K a (.ref C) d f i) (dXf q a d x f i) := fun D as G ev σ H Q' P X R h hP hX => by
  unfold dXf at h
  split at h
  · rename_i a' d' x' fts e
    obtain ⟨rfl, rfl, rfl, hq, u, l, p⟩ := h
    obtain ⟨v, e1, tv⟩ := R.fr i _ e
    obtain ⟨h1, h2⟩ := Q.ok _ C f m hq
    cases tv with
    | exc m' => cases l
    | excD m' g e2 b =>
      rcases fs_lookup f e2 b with ⟨n1, n2⟩ | ⟨t, w, n1, n2, n3, _⟩
      · rw [n1] at l; cases l
      · rw [n1] at l
        cases l
        exact ⟨e1, C, rfl, h1, h2, _, _, w, rfl, R.s.sub _ _ g, n2, hP _ ev as G w H p R Ext.refl n3⟩
  · exact h.elim
/-! ## its class -/
structure IxF (K : PySem.W.Frag) (mg : Str → Option Value) (q : Str → Tag → Option Bool) : Prop where
  ok : ∀ x D g u b, mg x = some (.ref D) → TagV mg g u → q x g = some b → ExcC K D ∧ PySem.W.kitOne K (.ref D) u = some b
def rIsXA (K : PySem.W.Frag) (a : Addr) (cls : Value) (d : Option Addr) : List V → Hp → VK → Prop := fun xs H Q => ∃ D n, cls = .ref D ∧ d = some n ∧ ExcC K D ∧ rIsX K D a n xs H Q
theorem call_isXA {X : Cx} {a : Addr} {oe : Obj} {cls : Value} {d : Option Addr} {pn : List (Addr × Obj)} (hz : Zc cls d oe) (hf : ∃ vs, oe.data = .fields vs) : CallR (X.suite a ((a, oe) :: pn)) (.builtin "isinstance") (rIsXA X.K a cls d) := by
  intro pins s σ H xs us Q I r ⟨D, n, e1, e2, ex, h⟩
  subst e1 e2
  exact call_isX ex hz hf pins s σ H xs us Q I r h
def dIsX (q : Str → Tag → Option Bool) (a : Addr) (d : Option Addr) (x : Str) (g : Tag) (i : Nat) : DE := fun P _ ev => match ev.env[i]? with
  | some (.fr (.exc a' d' x' fts)) => a' = a ∧ d' = d ∧ x' = x ∧ fts ≠ [] ∧ ∃ b, q x g = some b ∧ P (.bl b) ev
  | _ => False
theorem isx_ok {q : Str → Tag → Option Bool} (Q : IxF K mg q) {a : Addr} {d : Option Addr} {x : Str} {g : Tag} {i : Nat} {C : Addr} (m : mg x = some (.ref C)) {D : En} {as : List Addr} {G H : Hp} {ev : Ev} {σ : L2.St} {Q' : VK} {P : T → Ev → Prop} {X : DX} (R : Rel K mg D as G ev σ H) (h : dIsX q a d x g i P X ev) (hP : PV K mg D as G σ P Q') {c : V} {u : Value} (hc : ClsV c u) (hg : TagV mg g u) :
    σ[i]? = some (some (.ref a)) ∧ rIsXA K a (.ref C) d [.ref a, c] H Q' := by
  unfold dIsX at h
  split at h
  · rename_i a' d' x' fts e
    obtain ⟨rfl, rfl, rfl, ne, b, eb, p⟩ := h
    obtain ⟨v, e1, tv⟩ := R.fr i _ e
    obtain ⟨h1, h2⟩ := Q.ok _ C g u b m hg eb
    cases tv with
    | exc m' => exact absurd rfl ne
    | excD m' g' e2 b' => exact ⟨e1, C, _, rfl, rfl, h1, c, u, b, _, rfl, hc, R.s.sub _ _ g', h2, hP _ ev as G _ H p R Ext.refl (.bl b)⟩
  · exact h.elim
theorem snd_isXB {q : Str → Tag → Option Bool} (Q : IxF K mg q) {a : Addr} {d : Option Addr} {x : Str} {n : String} {i : Nat} {C : Addr} (m : mg x = some (.ref C)) : Snd K mg E (tCB (rIsXA K a (.ref C) d) (tCons (tVar i) (tCons (tC (.ty n)) tNil))) (dIsX q a d x (.inl n) i) := fun D as G ev σ H Q' P X R h hP hX => by
  obtain ⟨h1, h2⟩ := isx_ok Q m R h hP (.ty n) (.ty n)
  exact ⟨_, h1, h2⟩
theorem snd_isXO {q : Str → Tag → Option Bool} (Q : IxF K mg q) {a : Addr} {d : Option Addr} {x y : Str} {i : Nat} {C B : Addr} (m : mg x = some (.ref C)) (m2 : mg y = some (.ref B)) : Snd K mg E (tCB (rIsXA K a (.ref C) d) (tCons (tVar i) (tCons (tC (.ref B)) tNil))) (dIsX q a d x (.inr y) i) := fun D as G ev σ H Q' P X R h hP hX => by
  obtain ⟨h1, h2⟩ := isx_ok Q m R h hP (.own B) (.own m2)
  exact ⟨_, h1, h2⟩
end
end Fu
set_option Elab.async false
set_option linter.all false
set_option maxRecDepth 100000
set_option maxHeartbeats 4000000
namespace Fu
open PySem PySem.Spec PyProof.Rows L2 Hv
/-! # x, y = a, b with new objects; lists that stay at once -/
section
variable {K : PySem.W.Frag} {mg : Str → Option Value} {E : L2.St → XK}
theorem notOw_set {ev : Ev} {σ : L2.St} {i : Nat} {s : Sl} {v : Option V} {b : Addr} (n : ¬ InOw ev σ b) (h : ∀ t, s = .ow t → v ≠ some (.ref b)) : ¬ InOw { ev with env := ev.env.set i s } (σ.set i v) b := by
  rintro ⟨j, t, e1, e2⟩
  have e1' : (ev.env.set i s)[j]? = some (.ow t) := e1
  by_cases q : j = i
  · subst q
    have hl : j < ev.env.length := by have := (List.getElem?_eq_some_iff.mp e1').1; simpa using this
    have hl2 : j < σ.length := by have := (List.getElem?_eq_some_iff.mp e2).1; simpa using this
    rw [List.getElem?_set_self hl] at e1'
    rw [List.getElem?_set_self hl2] at e2
    cases e1'
    cases e2
    exact h t rfl rfl
  · rw [List.getElem?_set_ne fun z => q z.symm] at e1' e2
    exact n ⟨j, t, e1', e2⟩
/-- a new object, while another one is made -/
theorem Own.step {D : En} {as1 as2 : List Addr} {G1 G2 H1 H2 : Hp} {t : T} {a : Addr} {o : HO} {ev2 : Ev} {σ : L2.St} (R1 : ∃ ev, Rel K mg D as1 G1 ev σ H1) (O : Own K mg D as1 G1 H1 t a) (ob : Obj' K mg as1 G1 t o) (R2 : Rel K mg (prot D a o) as2 G2 ev2 σ H2) (x : Ext as1 G1 as2 G2) :
    Rel K mg D as2 G2 ev2 σ H2 ∧ Own K mg D as2 G2 H2 t a ∧ ¬ InOw ev2 σ a := by
  obtain ⟨ev, R1⟩ := R1
  obtain ⟨o1, o2⟩ := R1.out O.na O.g
  obtain ⟨R3, h3, n3, g3, nw3⟩ := R2.unprot O.new o1 o2
  exact ⟨R3, ⟨⟨o, h3, ob.mono x⟩, g3, n3, O.new⟩, nw3⟩
theorem prot_new {D : En} {a b : Addr} {o : HO} (na : D.H a = none) (h : (prot D a o).H b = none) : D.H b = none ∧ b ≠ a := by
  have h' : upd D.H a o b = none := h
  by_cases z : b = a
  · rw [z, upd_same] at h'; cases h'
  · rw [upd_ne z] at h'; exact ⟨h', z⟩
def dParOO (i j : Nat) (f g : DE) : DS := fun P ev => f (fun t ev1 => g (fun u ev2 => P.nx { ev2 with env := (ev2.env.set i (.ow t)).set j (.ow u) }) P.ex ev1) P.ex ev
def dParOF (i j : Nat) (f g : DE) : DS := fun P ev => f (fun t ev1 => g (fun u ev2 => P.nx { ev2 with env := (ev2.env.set i (.ow t)).set j (.fr u) }) P.ex ev1) P.ex ev
def dParFO (i j : Nat) (f g : DE) : DS := fun P ev => f (fun t ev1 => g (fun u ev2 => P.nx { ev2 with env := (ev2.env.set i (.fr t)).set j (.ow u) }) P.ex ev1) P.ex ev
theorem snd_parOO {i j : Nat} {t u : TE} {f g : DE} (h : SndN K mg E t f) (k : SndN K mg E u g) : SndS K mg E (tPar i j (tCons t (tCons u tNil))) (dParOO i j f g) := fun D as G ev σ H Dn P R hf F =>
  h D as G ev σ H _ _ P.ex R hf (fun r ev1 as1 G1 a H1 p R1 x1 O nw => by
    obtain ⟨o, ea, ob⟩ := O.ob
    obtain ⟨o1, o2⟩ := R1.out O.na O.g
    refine k (prot D a o) as1 G1 ev1 σ H1 _ _ P.ex (R1.prot ea O.new O.na O.g nw) p (fun u ev2 as2 G2 b H2 p2 R2 x2 O2 nw2 => ?_) (px_prot ((F.px σ).ext x1) O.new o1 o2)
    obtain ⟨R3, O3, nw3⟩ := Own.step ⟨ev1, R1⟩ O ob R2 x2
    obtain ⟨n2, ne⟩ := prot_new O.new O2.new
    exact ⟨_, _, rfl, F.nx _ as2 G2 _ H2 p2 ((R3.setO O3 nw3).setO ⟨O2.ob, O2.g, O2.na, n2⟩ (notOw_set nw2 fun _ _ z => ne (by cases z; rfl))) (x1.trans x2)⟩) (F.px σ)
theorem snd_parOF {i j : Nat} {t u : TE} {f g : DE} (h : SndN K mg E t f) (k : Snd K mg E u g) : SndS K mg E (tPar i j (tCons t (tCons u tNil))) (dParOF i j f g) := fun D as G ev σ H Dn P R hf F =>
  h D as G ev σ H _ _ P.ex R hf (fun r ev1 as1 G1 a H1 p R1 x1 O nw => by
    obtain ⟨o, ea, ob⟩ := O.ob
    obtain ⟨o1, o2⟩ := R1.out O.na O.g
    refine k (prot D a o) as1 G1 ev1 σ H1 _ _ P.ex (R1.prot ea O.new O.na O.g nw) p (fun u ev2 as2 G2 b H2 p2 R2 x2 tv => ?_) (px_prot ((F.px σ).ext x1) O.new o1 o2)
    obtain ⟨R3, O3, nw3⟩ := Own.step ⟨ev1, R1⟩ O ob R2 x2
    exact ⟨_, _, rfl, F.nx _ as2 G2 _ H2 p2 ((R3.setO O3 nw3).setF tv) (x1.trans x2)⟩) (F.px σ)
theorem snd_parFO {i j : Nat} {t u : TE} {f g : DE} (h : Snd K mg E t f) (k : SndN K mg E u g) : SndS K mg E (tPar i j (tCons t (tCons u tNil))) (dParFO i j f g) := fun D as G ev σ H Dn P R hf F =>
  h D as G ev σ H _ _ P.ex R hf (fun r ev1 as1 G1 v H1 p R1 x1 tv => k D as1 G1 ev1 σ H1 _ _ P.ex R1 p (fun u ev2 as2 G2 b H2 p2 R2 x2 O2 nw2 =>
    ⟨_, _, rfl, F.nx _ as2 G2 _ H2 p2 ((R2.setF (tv.mono x2)).setO ⟨O2.ob, O2.g, O2.na, O2.new⟩ (notOw_set nw2 fun _ z => nomatch z)) (x1.trans x2)⟩) ((F.px σ).ext x1)) (F.px σ)
/-- x = a new list, which is not changed any more -/
def dSetL (i : Nat) (f : DE) : DS := fun P ev => f (fun t ev1 => match t with
  | .lst ts => P.nx { ev1 with env := ev1.env.set i (.fr (.lst ts)) }
  | _ => False) P.ex ev
theorem snd_setL {i : Nat} {t : TE} {f : DE} (h : SndN K mg E t f) : SndS K mg E (tAsg t (gName i)) (dSetL i f) := fun D as G ev σ H Dn P R hf F =>
  h D as G ev σ H _ _ P.ex R hf (fun r ev1 as1 G1 a H1 p R1 x1 O nw => by
    cases r with
    | lst ts =>
      obtain ⟨o, ea, ob⟩ := O.ob
      cases ob with
      | lst tv =>
        rename_i vs
        have R2 := R1.stay (.lst vs) O nw
        have e : upd H1 a (.lst vs) = H1 := funext fun b => by
          by_cases z : b = a
          · rw [z, upd_same, ea]
          · rw [upd_ne z]
        rw [e] at R2
        exact F.nx _ as1 _ _ H1 p (R2.setF (.lst upd_same (tv.mono (Ext.stay O.g)))) (x1.trans (Ext.stay O.g))
    | _ => exact (show False from p).elim) (F.px σ)
end
end Fu
set_option Elab.async false
set_option linter.all false
set_option maxRecDepth 100000
set_option maxHeartbeats 4000000
namespace Fu
open PySem PySem.Spec PyProof.Rows L2 Hv
/-! # the rules, with K and mg as they are named -/
/-- list + list, a new list -/
def gAddL : G2 := fun x y P => match x, y with
  | .lst a, .lst b => a.length + b.length ≤ sizeLine ∧ P (.lst (a ++ b))
  | _, _ => False
theorem on_addL {K : PySem.W.Frag} {mg : Str → Option Value} : OpN K mg (addR K) gAddL := on_add
section
variable {K : PySem.W.Frag} {mg : Str → Option Value} {E : L2.St → XK}
def dNeg (o : DO) : DE := fun P X ev => o (fun x ev1 => vw ev1 x fun t => match t with
  | .int i => P (.int (-i)) ev1
  | _ => False) X ev
theorem snd_neg {t : TE} {f : DO} (h : SndO K mg E t f) : Snd K mg E (tUn (rU fun i => .int (-i)) t) (dNeg f) := fun D as G ev σ H Q P X R hf hP hX =>
  h D as G ev σ H _ _ X R hf (fun x ev1 as1 G1 v H1 p R1 x1 tv => by
    obtain ⟨t, _, h1, p2⟩ := vw_ok R1 tv p
    cases t with
    | int i => cases (show v = .int i from h1); exact ⟨i, rfl, hP _ ev1 as1 G1 _ H1 p2 R1 x1 (.int _)⟩
    | _ => exact (show False from p2).elim) hX
end
section
variable {X : Cx} {K : PySem.W.Frag} {mg : Str → Option Value} (hK : X.K = K)
include hK
theorem zvK {e e2 : Expr} {ta : TA} {p pos tpos : Pos} {elts : List Expr} {kk : Nat} (hg : Gl X "zip") (hm : X.mg "zip" = none) (ha : PA X [e, e2] ta) (hs : starEach [e, e2] X.env = (false, eval e X.env) :: starEach [e2] X.env := by rfl) (hpl : (backTo pos (starEach [e2] X.env)).any (·.1) = false := by rfl) :
    PI X (.Tuple elts kk tpos) (.Call (.Name "zip" p) [e, e2] [] pos) (iZipV K ta) := by subst hK; exact pi_zipV hg hm ha hs hpl
theorem zkK {e e2 : Expr} {ta : TA} {p pos tpos : Pos} {elts : List Expr} {kk : Nat} (hg : Gl X "zip") (hm : X.mg "zip" = none) (ha : PA X [e, e2] ta) (hs : starEach [e, e2] X.env = (false, eval e X.env) :: starEach [e2] X.env := by rfl) (hpl : (backTo pos (starEach [e2] X.env)).any (·.1) = false := by rfl) :
    PI X (.Tuple elts kk tpos) (.Call (.Name "zip" p) [e, e2] [] pos) (iZipK K ta) := by subst hK; exact pi_zipKD hg hm ha hs hpl
theorem conK {e : Expr} {ta : TE} {f : Str} {pos : Pos} (he : PE X e ta) (hb : attributeBase e f X.env (eval e X.env) = eval e X.env := by rfl) : PE X (.Attribute e f pos) (tCon K ta f) := by subst hK; exact pe_con he hb
theorem cvK {e : Expr} {ta : TE} {f : Str} {pos : Pos} (he : PE X e ta) (hb : attributeBase e f X.env (eval e X.env) = eval e X.env := by rfl) : PE X (.Attribute e f pos) (ClX.tCVal K ta f) := by subst hK; exact ClX.pe_cval he hb
theorem sfK {o value : Expr} {ta tv : TE} {f : Str} {pos pos' : Pos} (ha : PE X o ta) (hv : PE X value tv) (hs : swapsWith value (some (.Attribute o f pos')) pos.line X.env = pure false) : PS X (.Assign [.Attribute o f pos'] value pos) (sFld K ta tv f) := by subst hK; exact ps_fld ha hv hs
theorem eqK' (hu : X.A.units + 128 < cLine) : OpR X (compareOp .Eq) (rEqK K false) := by subst hK; exact op_eqK hu
theorem neK' (hu : X.A.units + 128 < cLine) : OpR X (compareOp .NotEq) (rEqK K true) := by subst hK; exact op_neK hu
theorem truK {a : Expr} {t : TE} (ha : PE X a t) (he : ∀ whole, isTrue a X.env whole = (do let v ← whole; standAt a.pos; holding [v] (truthy v)) := by intro _; rfl) : PT X a (tTru K t) := pt_tru hK ha he
variable {k : Nat} {c : Str} {ps : List Str} {sp : Sp}
theorem inOK (hmg : X.mg = mg) (D : MCal X.prog X.w K mg X.base k c "__contains__" ps sp) (hr : Room k X.A) (hG : X.A.guards = some []) : OpR X (compareOp .In) (rInO K mg false c sp) := by subst hK hmg; exact op_inO rfl D hr hG
theorem notInOK (hmg : X.mg = mg) (D : MCal X.prog X.w K mg X.base k c "__contains__" ps sp) (hr : Room k X.A) (hG : X.A.guards = some []) : OpR X (compareOp .NotIn) (rInO K mg true c sp) := by subst hK hmg; exact op_notInO rfl D hr hG
theorem eqOK (hmg : X.mg = mg) (D : MCal X.prog X.w K mg X.base k c "__eq__" ps sp) (hr : Room k X.A) (hG : X.A.guards = some []) : OpR X (compareOp .Eq) (rEqO K mg false c sp) := by subst hK hmg; exact op_eqO rfl D hr hG
theorem neOK (hmg : X.mg = mg) (D : MCal X.prog X.w K mg X.base k c "__eq__" ps sp) (N : NeC K mg c) (hr : Room (k + 1) X.A) (hG : X.A.guards = some []) : OpR X (compareOp .NotEq) (rEqO K mg true c sp) := by subst hK hmg; exact op_neO rfl D N hr hG
theorem lenOK (hmg : X.mg = mg) (D : MCal X.prog X.w K mg X.base k c "__len__" ps sp) (hr : Room (k + 1) X.A) (hG : X.A.guards = some []) : CallR X (.builtin "len") (rLenO mg c sp) := by subst hK hmg; exact call_lenO rfl D hr hG
end
/-- a power of two constants -/
theorem snd_powC {K : PySem.W.Frag} {mg : Str → Option Value} {E : L2.St → XK} {i j k : Int} (h : CPow i j) (e : i ^ j.toNat = k) : Snd K mg E (tOp (rI CPow fun i j => .int (i ^ j.toNat)) (tC (.int i)) (tC (.int j))) (dC (.int k)) := fun D as G ev σ H Q P X R hf hP hX => by
  subst e
  exact ⟨i, j, rfl, rfl, h, hP _ ev as G _ H hf R Ext.refl (.int _)⟩
theorem atI0 {α : Type} {x : α} {xs : List α} : atI (x :: xs) 0 = some x := by
  unfold atI ixN
  rw [if_pos (Int.le_refl 0), if_pos (by simp)]
  rfl
theorem atI1 {α : Type} {x y : α} {xs : List α} : atI (x :: y :: xs) 1 = some y := by
  unfold atI ixN
  rw [if_pos (by decide), if_pos (by simp only [List.length_cons]; omega)]
  rfl
theorem atI2 {α : Type} {x y z : α} {xs : List α} : atI (x :: y :: z :: xs) 2 = some z := by
  unfold atI ixN
  rw [if_pos (by decide), if_pos (by simp only [List.length_cons]; omega)]
  rfl
theorem ixN0 {n : Nat} (h : 0 < n) : ixN n 0 = some 0 := by
  unfold ixN
  rw [if_pos (Int.le_refl 0), if_pos (by omega)]
  rfl
theorem ixN1 {n : Nat} (h : 1 < n) : ixN n 1 = some 1 := by
  unfold ixN
  rw [if_pos (by decide), if_pos (by omega)]
  rfl
theorem units128 {A : Around} {j : Nat} (hr : Room j A) : A.units + 128 < cLine := by have := hr.un; omega
theorem xfK {X : Cx} {K : PySem.W.Frag} {a : Addr} {oe : Obj} {cls : Value} {d : Option Addr} {pn : List (Addr × Obj)} (hK : X.K = K) {e : Expr} {i : Nat} {pos : Pos} {n : Str} (hz : Zc cls d oe) (hf : ∃ vs, oe.data = .fields vs) (he : PE (X.suite a ((a, oe) :: pn)) e (tVar i)) (hb : attributeBase e n X.env (eval e X.env) = eval e X.env := by rfl) :
    PE (X.suite a ((a, oe) :: pn)) (.Attribute e n pos) (tXfA K a cls d n i) := by subst hK; exact pe_xfA hz hf he hb
theorem isxK {X : Cx} {K : PySem.W.Frag} {a : Addr} {oe : Obj} {cls : Value} {d : Option Addr} {pn : List (Addr × Obj)} (hK : X.K = K) (hz : Zc cls d oe) (hf : ∃ vs, oe.data = .fields vs) : CallR (X.suite a ((a, oe) :: pn)) (.builtin "isinstance") (rIsXA K a cls d) := by subst hK; exact call_isXA hz hf
end Fu
set_option Elab.async false
set_option linter.all false
set_option maxRecDepth 100000
set_option maxHeartbeats 4000000
namespace Fu
open PySem PySem.Spec PyProof.Rows L2 Hv
/-! # loops, as they are proved -/
/-! ## by the form of what is seen -/
section
variable {st : List Cel} {b : Bool} {i : Int} {x c : Str} {n : String} {xs : List T} {kvs : List (Key × T)} {fs : List (Str × T)} {ns : List Int} {a : Addr} {d : Option Addr} {k : Nat}
theorem deref_non : deref st .non = some .non := rfl
theorem deref_bl : deref st (.bl b) = some (.bl b) := rfl
theorem deref_int : deref st (.int i) = some (.int i) := rfl
theorem deref_str : deref st (.str x) = some (.str x) := rfl
theorem deref_ty : deref st (.ty n) = some (.ty n) := rfl
theorem deref_lst : deref st (.lst xs) = some (.lst xs) := rfl
theorem deref_tup : deref st (.tup xs) = some (.tup xs) := rfl
theorem deref_dct : deref st (.dct kvs) = some (.dct kvs) := rfl
theorem deref_ins : deref st (.ins c fs) = some (.ins c fs) := rfl
theorem deref_glob : deref st (.glob x) = some (.glob x) := rfl
theorem deref_scr : deref st (.scr ns) = some (.scr ns) := rfl
theorem deref_exc : deref st (.exc a d c fs) = some (.exc a d c fs) := rfl
theorem deref_ev : deref st (.ev c fs) = some (.ev c fs) := rfl
theorem deref_cell : deref st (.cell k) = (match st[k]? with
  | some (false, t) => some t
  | some (true, .dct kvs) => some (.dct kvs)
  | _ => none) := rfl
theorem truth_non : truth .non = some false := rfl
theorem truth_bl : truth (.bl b) = some b := rfl
theorem truth_int : truth (.int i) = some (i != 0) := rfl
theorem truth_lst : truth (.lst xs) = some (!xs.isEmpty) := rfl
theorem truth_tup : truth (.tup xs) = some (!xs.isEmpty) := rfl
theorem truth_str : truth (.str x) = if x.length ≤ sizeLine then some ((x.length : Int) != 0) else none := rfl
theorem tagOf_non : tagOf .non = some (.inl "NoneType") := rfl
theorem tagOf_bl : tagOf (.bl b) = some (.inl "bool") := rfl
theorem tagOf_int : tagOf (.int i) = some (.inl "int") := rfl
theorem tagOf_str : tagOf (.str x) = some (.inl "str") := rfl
theorem tagOf_lst : tagOf (.lst xs) = some (.inl "list") := rfl
theorem tagOf_tup : tagOf (.tup xs) = some (.inl "tuple") := rfl
theorem tagOf_dct : tagOf (.dct kvs) = some (.inl "dict") := rfl
theorem tagOf_scr : tagOf (.scr ns) = some (.inl "list") := rfl
theorem tagOf_ins : tagOf (.ins c fs) = some (.inr c) := rfl
theorem toKey_int : toKey (.int i) = some (.inl i) := rfl
theorem toKey_str : toKey (.str x) = some (.inr x) := rfl
theorem isNon_non : isNon .non = true := rfl
theorem isNon_bl : isNon (.bl b) = false := rfl
theorem isNon_int : isNon (.int i) = false := rfl
theorem isNon_str : isNon (.str x) = false := rfl
theorem isNon_ty : isNon (.ty n) = false := rfl
theorem isNon_lst : isNon (.lst xs) = false := rfl
theorem isNon_tup : isNon (.tup xs) = false := rfl
theorem isNon_dct : isNon (.dct kvs) = false := rfl
theorem isNon_ins : isNon (.ins c fs) = false := rfl
theorem isNon_glob : isNon (.glob x) = false := rfl
theorem isNon_scr : isNon (.scr ns) = false := rfl
theorem isNon_exc : isNon (.exc a d c fs) = false := rfl
end
theorem dFor_intro {it : DI} {g : DG} {b : DS} {P : PEnds} {ev ev1 : Ev} {items : List T} (Iv : Nat → Ev → Prop) (hit : ∀ Q : List T → Ev → Prop, Q items ev1 → it Q P.ex ev) (h0 : Iv 0 ev1)
    (hs : ∀ (i : Nat) (t : T) (ev2 : Ev), items[i]? = some t → Iv i ev2 → g t (fun ev3 => b { P with nx := Iv (i + 1), ct := Iv (i + 1), bk := P.nx } ev3) P.ex ev2) (hd : ∀ ev2, Iv items.length ev2 → P.nx ev2) : dFor it g b P ev :=
  hit _ ⟨Iv, h0, hs, hd⟩
/-- what is walked changes nothing -/
theorem dFor_at {it : DI} {g : DG} {b : DS} {P : PEnds} {ev : Ev} (items : List T) (Iv : Nat → Ev → Prop) (hit : ∀ Q : List T → Ev → Prop, Q items ev → it Q P.ex ev) (h0 : Iv 0 ev)
    (hs : ∀ (i : Nat) (t : T) (ev2 : Ev), items[i]? = some t → Iv i ev2 → g t (fun ev3 => b { P with nx := Iv (i + 1), ct := Iv (i + 1), bk := P.nx } ev3) P.ex ev2) (hd : ∀ ev2, Iv items.length ev2 → P.nx ev2) : dFor it g b P ev :=
  dFor_intro Iv hit h0 hs hd
theorem dLc_intro {it : DI} {g : DG} {tt : DT} {te : DE} {vs : List Nat} {P : T → Ev → Prop} {X : DX} {ev ev1 : Ev} {items : List T} (Iv : Nat → List T → Ev → Prop) (hit : ∀ Q : List T → Ev → Prop, Q items ev1 → it Q X ev) (h0 : Iv 0 [] (wiped vs ev1))
    (hs : ∀ (i : Nat) (t : T) (acc : List T) (ev2 : Ev), items[i]? = some t → Iv i acc ev2 → g t (fun ev3 => tt (fun b ev4 => if b = true then te (fun r ev5 => acc.length < sizeLine ∧ Iv (i + 1) (acc ++ [r]) (wiped vs ev5)) X0 ev4 else Iv (i + 1) acc (wiped vs ev4)) X0 ev3) X0 ev2)
    (hd : ∀ acc ev2, Iv items.length acc ev2 → P (.lst acc) (unw vs ev1 ev2)) : dLc it g tt te vs P X ev := hit _ ⟨Iv, h0, hs, hd⟩
theorem take_get {α : Type} {xs : List α} {i : Nat} {x : α} (h : xs[i]? = some x) : xs.take (i + 1) = xs.take i ++ [x] := by
  obtain ⟨hl, e⟩ := List.getElem?_eq_some_iff.mp h
  rw [List.take_succ, h]
  rfl
/-- element by element, nothing else changes -/
theorem dLc_map {it : DI} {g : DG} {te : DE} {vs : List Nat} {P : T → Ev → Prop} {X : DX} {ev ev1 : Ev} {items : List T} (f : T → T) (hit : ∀ Q : List T → Ev → Prop, Q items ev1 → it Q X ev) (hl : items.length ≤ sizeLine)
    (hs : ∀ (t : T) (Q : T → Ev → Prop), t ∈ items → (∀ ev5, wiped vs ev5 = wiped vs ev1 → Q (f t) ev5) → g t (fun ev3 => te Q X0 ev3) X0 (wiped vs ev1))
    (hd : P (.lst (items.map f)) (unw vs ev1 (wiped vs ev1))) : dLc it g dYes te vs P X ev := by
  refine dLc_intro (fun i acc ev2 => ev2 = wiped vs ev1 ∧ acc = (items.take i).map f) hit ⟨rfl, rfl⟩ ?_ ?_
  · rintro i t acc ev2 e ⟨rfl, rfl⟩
    have hi := (List.getElem?_eq_some_iff.mp e).1
    refine hs t _ (List.mem_of_getElem? e) fun ev5 h5 => ⟨?_, h5, ?_⟩
    · rw [List.length_map, List.length_take]; omega
    · rw [take_get e, List.map_append]; rfl
  · rintro acc ev2 ⟨rfl, rfl⟩
    rw [List.take_length]
    exact hd
/-- .. with a test -/
theorem dLc_fmap {it : DI} {g : DG} {tt : DT} {te : DE} {vs : List Nat} {P : T → Ev → Prop} {X : DX} {ev ev1 : Ev} {items : List T} (f : T → Option T) (hit : ∀ Q : List T → Ev → Prop, Q items ev1 → it Q X ev) (hl : items.length ≤ sizeLine)
    (hs : ∀ (t : T) (Q : T → Ev → Prop) (N : Ev → Prop), t ∈ items → (∀ r ev5, f t = some r → wiped vs ev5 = wiped vs ev1 → Q r ev5) → (∀ ev5, f t = none → wiped vs ev5 = wiped vs ev1 → N ev5) → g t (fun ev3 => tt (fun b ev4 => if b = true then te Q X0 ev4 else N ev4) X0 ev3) X0 (wiped vs ev1))
    (hd : P (.lst (items.filterMap f)) (unw vs ev1 (wiped vs ev1))) : dLc it g tt te vs P X ev := by
  refine dLc_intro (fun i acc ev2 => ev2 = wiped vs ev1 ∧ acc = (items.take i).filterMap f) hit ⟨rfl, rfl⟩ ?_ ?_
  · rintro i t acc ev2 e ⟨rfl, rfl⟩
    have hi := (List.getElem?_eq_some_iff.mp e).1
    have h1 := List.length_filterMap_le f (items.take i)
    rw [List.length_take] at h1
    refine hs t _ _ (List.mem_of_getElem? e) (fun r ev5 e5 h5 => ⟨by omega, h5, ?_⟩) fun ev5 e5 h5 => ⟨h5, ?_⟩
    · rw [take_get e, List.filterMap_append, List.filterMap_cons_some e5]; rfl
    · rw [take_get e, List.filterMap_append, List.filterMap_cons_none e5, List.filterMap_nil, List.append_nil]
  · rintro acc ev2 ⟨rfl, rfl⟩
    rw [List.take_length]
    exact hd
theorem dDc_intro {it : DI} {g : DG} {tt : DT} {tk tv : DE} {vs : List Nat} {P : T → Ev → Prop} {X : DX} {ev ev1 : Ev} {items : List T} (Iv : Nat → List (Key × T) → Ev → Prop) (hit : ∀ Q : List T → Ev → Prop, Q items ev1 → it Q X ev) (h0 : Iv 0 [] (wiped vs ev1))
    (hs : ∀ (i : Nat) (t : T) (acc : List (Key × T)) (ev2 : Ev), items[i]? = some t → Iv i acc ev2 → g t (fun ev3 => tt (fun b ev4 => if b = true then tk (fun kt ev5 => tv (fun r ev6 => ∃ k, toKey kt = some k ∧ acc.length < sizeLine ∧ Iv (i + 1) (putT acc k r) (wiped vs ev6)) X0 ev5) X0 ev4 else Iv (i + 1) acc (wiped vs ev4)) X0 ev3) X0 ev2)
    (hd : ∀ acc ev2, Iv items.length acc ev2 → P (.dct acc) (unw vs ev1 ev2)) : dDc it g tt tk tv vs P X ev := hit _ ⟨Iv, h0, hs, hd⟩
theorem putT_new {kts : List (Key × T)} {k : Key} {t : T} (h : k ∉ kts.map (·.1)) : putT kts k t = kts ++ [(k, t)] := by
  unfold putT
  rw [if_neg]
  intro z
  rw [List.any_eq_true] at z
  obtain ⟨p, hp, e⟩ := z
  exact h (List.mem_map.mpr ⟨p, hp, of_decide_eq_true e⟩)
/-- keys that are different -/
theorem dDc_map {it : DI} {g : DG} {tk tv : DE} {vs : List Nat} {P : T → Ev → Prop} {X : DX} {ev ev1 : Ev} {items : List T} (f : T → Key × T) (hit : ∀ Q : List T → Ev → Prop, Q items ev1 → it Q X ev) (hl : items.length ≤ sizeLine) (nd : (items.map fun t => (f t).1).Nodup)
    (hs : ∀ (t : T) (Q : T → T → Ev → Prop), t ∈ items → (∀ kt ev5, toKey kt = some (f t).1 → wiped vs ev5 = wiped vs ev1 → Q kt (f t).2 ev5) → g t (fun ev3 => tk (fun kt ev5 => tv (Q kt) X0 ev5) X0 ev3) X0 (wiped vs ev1))
    (hd : P (.dct (items.map f)) (unw vs ev1 (wiped vs ev1))) : dDc it g dYes tk tv vs P X ev := by
  refine dDc_intro (fun i acc ev2 => ev2 = wiped vs ev1 ∧ acc = (items.take i).map f) hit ⟨rfl, rfl⟩ ?_ ?_
  · rintro i t acc ev2 e ⟨rfl, rfl⟩
    have hi := (List.getElem?_eq_some_iff.mp e).1
    refine hs t _ (List.mem_of_getElem? e) fun kt ev5 hk h5 => ⟨(f t).1, hk, ?_, h5, ?_⟩
    · rw [List.length_map, List.length_take]; omega
    · rw [take_get e, List.map_append, putT_new]
      · rfl
      · intro z
        rw [List.map_map] at z
        have h2 : items.map (fun t => (f t).1) = (items.take i).map (fun t => (f t).1) ++ (items.drop i).map (fun t => (f t).1) := by rw [← List.map_append, List.take_append_drop]
        rw [h2, List.nodup_append] at nd
        obtain ⟨hl, e2⟩ := List.getElem?_eq_some_iff.mp e
        refine nd.2.2 _ z _ (List.mem_map.mpr ⟨t, ?_, rfl⟩) rfl
        rw [List.drop_eq_getElem_cons hl, e2]
        exact List.mem_cons_self
  · rintro acc ev2 ⟨rfl, rfl⟩
    rw [List.take_length]
    exact hd
theorem dWhile_intro {c : DT} {b : DS} {P : PEnds} {ev : Ev} (Iv : Nat → Ev → Prop) (m : Nat) (h0 : Iv m ev)
    (hs : ∀ m ev1, Iv m ev1 → c (fun k ev2 => if k = true then b { P with nx := fun ev3 => ∃ j, j < m ∧ Iv j ev3, ct := fun ev3 => ∃ j, j < m ∧ Iv j ev3, bk := P.nx } ev2 else P.nx ev2) P.ex ev1) : dWhile c b P ev := ⟨Iv, ⟨m, h0⟩, hs⟩
theorem tagOf_deref {st : List Cel} {t : T} {k : Tag} (h : tagOf t = some k) : deref st t = some t := by cases t <;> first | rfl | cases h
theorem sign_inj {c d : Nat} : ((⟨#[c]⟩ : Str) = ⟨#[d]⟩) = (c = d) := by
  rw [Str.mk.injEq]
  apply propext
  constructor
  · intro h
    have := congrArg Array.toList h
    simpa using this
  · rintro rfl
    rfl
theorem rangeT_get {lo : Int} {n i : Nat} {t : T} (h : (rangeT lo n)[i]? = some t) : i < n ∧ t = .int (lo + i) := by
  unfold rangeT at h
  rw [List.getElem?_map, Option.map_eq_some_iff] at h
  obtain ⟨j, h1, rfl⟩ := h
  obtain ⟨h2, h3⟩ := List.getElem?_eq_some_iff.mp h1
  rw [List.getElem_range] at h3
  rw [List.length_range] at h2
  subst h3
  exact ⟨h2, rfl⟩
theorem rangeT_len (lo : Int) (n : Nat) : (rangeT lo n).length = n := by unfold rangeT; rw [List.length_map, List.length_range]
end Fu
set_option Elab.async false
set_option linter.all false
set_option maxRecDepth 100000
set_option maxHeartbeats 4000000
namespace Fu
open PySem PySem.Spec PyProof.Rows L2 Hv
/-! # the rules, each naming what comes behind it once -/
section
variable {K : PySem.W.Frag} {mg : Str → Option Value} {E : L2.St → XK}
theorem Snd.imp {t : TE} {f f' : DE} (h : Snd K mg E t f) (i : ∀ P X ev, f' P X ev → f P X ev) : Snd K mg E t f' := fun D as G ev σ H Q P X R hf hP hX => h D as G ev σ H Q P X R (i P X ev hf) hP hX
theorem SndN.imp {t : TE} {f f' : DE} (h : SndN K mg E t f) (i : ∀ P X ev, f' P X ev → f P X ev) : SndN K mg E t f' := fun D as G ev σ H Q P X R hf hP hX => h D as G ev σ H Q P X R (i P X ev hf) hP hX
theorem SndO.imp {t : TE} {f f' : DO} (h : SndO K mg E t f) (i : ∀ P X ev, f' P X ev → f P X ev) : SndO K mg E t f' := fun D as G ev σ H Q P X R hf hP hX => h D as G ev σ H Q P X R (i P X ev hf) hP hX
theorem SndI.imp {t : TI} {f f' : DI} (h : SndI K mg E t f) (i : ∀ P X ev, f' P X ev → f P X ev) : SndI K mg E t f' := fun D as G ev σ H Q P X R hf hP hX => h D as G ev σ H Q P X R (i P X ev hf) hP hX
theorem OpS.imp {r : R2} {g g' : G2} (h : OpS K mg r g) (i : ∀ x y P, g' x y P → g x y P) : OpS K mg r g' := fun D as G ev σ H tx ty x y P Q R hx hy hg q => h D as G ev σ H tx ty x y P Q R hx hy (i tx ty P hg) q
theorem CalS.imp {r : List V → Hp → VK → Prop} {g g' : GL} (h : CalS K mg r g) (i : ∀ ts P, g' ts P → g ts P) : CalS K mg r g' := fun D as G ev σ H ts vs P Q R hv hg q => h D as G ev σ H ts vs P Q R hv (i ts P hg) q
theorem CalN.imp {r : List V → Hp → VK → Prop} {g g' : GL} (h : CalN K mg r g) (i : ∀ ts P, g' ts P → g ts P) : CalN K mg r g' := fun D as G ev σ H ts vs P Q R hv hg q => h D as G ev σ H ts vs P Q R hv (i ts P hg) q
theorem SlS.imp {r : V → Option Int → Option Int → Hp → VK → Prop} {g g' : GS} (h : SlS K mg r g) (i : ∀ t lo hi P, g' t lo hi P → g t lo hi P) : SlS K mg r g' := fun D as G ev σ H t lo hi v P Q R hv hg q => h D as G ev σ H t lo hi v P Q R hv (i t lo hi P hg) q
theorem SlN.imp {r : V → Option Int → Option Int → Hp → VK → Prop} {g g' : GS} (h : SlN K mg r g) (i : ∀ t lo hi P, g' t lo hi P → g t lo hi P) : SlN K mg r g' := fun D as G ev σ H t lo hi v P Q R hv hg q => h D as G ev σ H t lo hi v P Q R hv (i t lo hi P hg) q
/-- there is one, and then .. -/
def om {α : Type} (o : Option α) (P : α → Prop) : Prop := match o with
  | some t => P t
  | none => False
def omP (o : Option (Prop × T)) (P : T → Prop) : Prop := match o with
  | some p => p.1 ∧ P p.2
  | none => False
theorem om_some {α : Type} {t : α} {P : α → Prop} : om (some t) P = P t := rfl
theorem om_none {α : Type} {P : α → Prop} : om none P = False := rfl
theorem ex_map {α β : Type} {o : Option α} {f : α → β} {P : β → Prop} : (∃ t, o.map f = some t ∧ P t) = ∃ c, o = some c ∧ P (f c) := by
  apply propext
  constructor
  · rintro ⟨t, e, h⟩
    obtain ⟨c, e1, rfl⟩ := Option.map_eq_some_iff.mp e
    exact ⟨c, e1, h⟩
  · rintro ⟨c, rfl, h⟩
    exact ⟨_, rfl, h⟩
/-! ## names -/
def okSl (ev : Ev) (i : Nat) : Prop := match ev.env[i]? with
  | some (.fr _) => True
  | some (.ow _) => True
  | _ => False
def xV (i : Nat) : DO := fun P _ ev => okSl ev i ∧ P (.inl i) ev
theorem snd_xV {i : Nat} : SndO K mg E (tVar i) (xV i) := snd_oV.imp fun P X ev ⟨h, p⟩ => by
  unfold okSl at h
  unfold oV
  split at h
  · rename_i e; first | (simp only [e]; exact p) | exact p | (rw [e]; exact p) | (dsimp only; exact p)
  · rename_i e; first | (simp only [e]; exact p) | exact p | (rw [e]; exact p) | (dsimp only; exact p)
  · exact h.elim
def takeV (ev : Ev) (i : Nat) : Option (T × Ev) := match ev.env[i]? with
  | some (.fr t) => some (t, ev)
  | some (.ow t) => some (t, { ev with env := ev.env.set i (.fr t) })
  | _ => none
def xVar (i : Nat) : DE := fun P _ ev => om (takeV ev i) fun p => P p.1 p.2
theorem snd_xVar {i : Nat} : Snd K mg E (tFz (tVar i)) (xVar i) := snd_var.imp fun P X ev h => by
  unfold xVar takeV at h
  unfold dVar
  cases q : ev.env[i]? with
  | none => simp only [q] at h; exact h.elim
  | some s =>
    simp only [q] at h
    cases s with
    | no => exact h.elim
    | fr t => exact h
    | ow t => exact h
/-! ## operations -/
def addT (x y : T) : Option (Prop × T) := match x, y with
  | .int i, .int j => some (True, .int (i + j))
  | .str a, .str b => some (a.length + b.length ≤ sizeLine, .str (a ++ b))
  | .lst a, .lst b => some (a.length + b.length ≤ sizeLine, .lst (a ++ b))
  | .tup a, .tup b => some (a.length + b.length ≤ sizeLine, .tup (a ++ b))
  | _, _ => none
def xAdd : G2 := fun x y P => omP (addT x y) P
theorem os_xAdd : OpS K mg (addR K) xAdd := os_add.imp fun x y P h => by
  unfold xAdd addT at h
  cases x with
  | int i => cases y <;> first | exact h.2 | exact h
  | str i => cases y <;> first | exact h | exact h
  | lst i => cases y <;> first | exact h | exact h
  | tup i => cases y <;> first | exact h | exact h
  | _ => exact (show False from h).elim
def mulT (x y : T) : Option (Prop × T) := match x, y with
  | .int i, .int j => some (CMul i j, .int (i * j))
  | .lst ts, .int k => some (-(2 ^ 63) ≤ k ∧ k < 2 ^ 63 ∧ ts.length * k.toNat ≤ sizeLine, .lst (List.replicate k.toNat ts).flatten)
  | _, _ => none
def xMul : G2 := fun x y P => omP (mulT x y) P
theorem os_xMul : OpS K mg mulR xMul := os_mul.imp fun x y P h => by
  unfold xMul mulT at h
  cases x with
  | int i => cases y <;> first | exact h | exact h
  | lst i => cases y <;> first | exact h | exact h
  | _ => exact (show False from h).elim
/-- the text of one sign -/
def sign1 (x : T) (z : Str) : Option Bool := match x with
  | .str s => match s.cps.toList with
    | [c] => some (decide (c ∈ cs z))
    | _ => none
  | _ => none
theorem sign1_eq {c : Nat} {z : Str} : sign1 (.str ⟨#[c]⟩) z = some (decide (c ∈ cs z)) := rfl
def inL (ts : List T) (x : T) : Option Bool := match toP x, toPs ts with
  | some d, some ds => if d.depth ≤ 60 then some (hasD ds d) else none
  | _, _ => none
def inT (x y : T) : Option Bool := match y with
  | .lst ts => inL ts x
  | .tup ts => inL ts x
  | .str z => sign1 x z
  | _ => none
def negB (neg b : Bool) : Bool := if neg then !b else b
def xIn (neg : Bool) : G2 := fun x y P => om (inT x y) fun b => P (.bl (negB neg b))
theorem inL_inv {ts : List T} {x : T} {P : Bool → Prop} (h : om (inL ts x) P) : ∃ d ds, toP x = some d ∧ toPs ts = some ds ∧ d.depth ≤ 60 ∧ P (hasD ds d) := by
  unfold inL at h
  cases e1 : toP x with
  | none => rw [e1] at h; exact h.elim
  | some d => cases e2 : toPs ts with
    | none => rw [e1, e2] at h; exact h.elim
    | some ds =>
      rw [e1, e2] at h
      by_cases q : d.depth ≤ 60
      · simp only [if_pos q] at h; exact ⟨d, ds, rfl, rfl, q, h⟩
      · simp only [if_neg q] at h; exact h.elim
theorem sign1_inv {x : T} {z : Str} {P : Bool → Prop} (h : om (sign1 x z) P) : ∃ c, x = .str ⟨#[c]⟩ ∧ P (decide (c ∈ cs z)) := by
  cases x with
  | str s =>
    obtain ⟨a⟩ := s
    obtain ⟨l⟩ := a
    unfold sign1 at h
    match l, h with
    | [c], h => exact ⟨c, rfl, h⟩
  | _ => exact (show False from h).elim
theorem os_xIn : OpS K mg (inR K) (xIn false) := os_in.imp fun x y P h => by
  unfold xIn inT at h
  cases y with
  | lst ts => exact inL_inv h
  | tup ts => exact inL_inv h
  | str z => exact sign1_inv h
  | _ => exact (show False from h).elim
theorem os_xNotIn : OpS K mg (notInR K) (xIn true) := os_notIn.imp fun x y P h => by
  unfold xIn inT at h
  cases y with
  | lst ts => exact inL_inv h
  | tup ts => exact inL_inv h
  | str z => exact sign1_inv h
  | _ => exact (show False from h).elim
def eqT (x y : T) : Option Bool := match toP x, toP y with
  | some d, some e => if min d.depth e.depth ≤ 60 then some (PyData.eqv d e) else none
  | _, _ => none
def xEq (neg : Bool) : G2 := fun x y P => om (eqT x y) fun b => P (.bl (negB neg b))
theorem eqT_inv {x y : T} {P : Bool → Prop} (h : om (eqT x y) P) : ∃ d e, toP x = some d ∧ toP y = some e ∧ min d.depth e.depth ≤ 60 ∧ P (PyData.eqv d e) := by
  unfold eqT at h
  cases e1 : toP x with
  | none => rw [e1] at h; exact h.elim
  | some d => cases e2 : toP y with
    | none => rw [e1, e2] at h; exact h.elim
    | some ds =>
      rw [e1, e2] at h
      by_cases q : min d.depth ds.depth ≤ 60
      · simp only [if_pos q] at h; exact ⟨d, ds, rfl, rfl, q, h⟩
      · simp only [if_neg q] at h; exact h.elim
theorem eqT_of {x y : T} {d e : PyData} (h1 : toP x = some d) (h2 : toP y = some e) (h3 : min d.depth e.depth ≤ 60) : eqT x y = some (PyData.eqv d e) := by
  unfold eqT
  rw [h1, h2]
  simp only [if_pos h3]
theorem os_xEq : OpS K mg (eqR K) (xEq false) := os_eq.imp fun x y P h => eqT_inv h
theorem os_xNe : OpS K mg (neR K) (xEq true) := os_ne.imp fun x y P h => eqT_inv h
def ixT (x y : T) : Option T := match y with
  | .int i => match x with
    | .lst ts => atI ts i
    | .tup ts => atI ts i
    | .scr ns => (atI ns i).map .int
    | .str z => (atI (cs z) i).map fun c => .str ⟨#[c]⟩
    | _ => none
  | _ => none
def ixC (x : T) : Prop := match x with
  | .str z => z.length ≤ sizeLine
  | _ => True
def xIx : G2 := fun x y P => ixC x ∧ ∃ t, ixT x y = some t ∧ P t
theorem os_xIx : OpS K mg (rIx K) xIx := os_ix.imp fun x y P ⟨h0, t, e, h⟩ => by
  cases y with
  | int i =>
    cases x with
    | lst ts => exact ⟨t, e, h⟩
    | tup ts => exact ⟨t, e, h⟩
    | scr ns =>
      have e : (atI ns i).map T.int = some t := e
      obtain ⟨k, e1, rfl⟩ := Option.map_eq_some_iff.mp e
      exact ⟨k, e1, h⟩
    | str z =>
      have e : ((atI (cs z) i).map fun c => T.str ⟨#[c]⟩) = some t := e
      obtain ⟨k, e1, rfl⟩ := Option.map_eq_some_iff.mp e
      exact ⟨h0, k, e1, h⟩
    | _ => cases e
  | _ => cases e
/-! ## calls of built-in functions -/
def xC1 (g : GL) (o : DO) : DE := fun P X ev => o (fun x ev1 => vw ev1 x fun t => g [t] fun r => P r ev1) X ev
def xC2 (g : GL) (o o2 : DO) : DE := fun P X ev => o (fun x ev1 => o2 (fun y ev2 => vw ev2 x fun t => vw ev2 y fun u => g [t, u] fun r => P r ev2) X ev1) X ev
theorem xC1_eq (g : GL) (o : DO) : xC1 g o = dCal g (drCons o drNil) := rfl
theorem xC2_eq (g : GL) (o o2 : DO) : xC2 g o o2 = dCal g (drCons o (drCons o2 drNil)) := rfl
theorem snd_xC1 {r : List V → Hp → VK → Prop} {g : GL} {t : TE} {f : DO} (o : CalS K mg r g) (h : SndO K mg E t f) : Snd K mg E (tCB r (tCons t tNil)) (xC1 g f) := by rw [xC1_eq]; exact snd_cal o (snd_rcons h snd_rnil)
theorem snd_xC2 {r : List V → Hp → VK → Prop} {g : GL} {t t2 : TE} {f f2 : DO} (o : CalS K mg r g) (h : SndO K mg E t f) (h2 : SndO K mg E t2 f2) : Snd K mg E (tCB r (tCons t (tCons t2 tNil))) (xC2 g f f2) := by rw [xC2_eq]; exact snd_cal o (snd_rcons h (snd_rcons h2 snd_rnil))
theorem snd_xC1N {r : List V → Hp → VK → Prop} {g : GL} {t : TE} {f : DO} (o : CalN K mg r g) (h : SndO K mg E t f) : SndN K mg E (tCB r (tCons t tNil)) (xC1 g f) := by rw [xC1_eq]; exact snd_calN o (snd_rcons h snd_rnil)
/-! ## functions of one -/
def xF1 (F : T → Option (Prop × T)) : GL := fun ts P => match ts with
  | [x] => omP (F x) P
  | _ => False
theorem xf1_inv {F : T → Option (Prop × T)} {ts : List T} {P : T → Prop} (h : xF1 F ts P) : ∃ x, ts = [x] ∧ omP (F x) P := by
  match ts, h with
  | [x], h => exact ⟨x, rfl, h⟩
def lenT (x : T) : Option (Prop × T) := match x with
  | .lst us => some (True, .int us.length)
  | .tup us => some (True, .int us.length)
  | .dct us => some (True, .int us.length)
  | .scr us => some (True, .int us.length)
  | .str z => some (z.length ≤ sizeLine, .int z.length)
  | _ => none
theorem cs_xLen : CalS K mg (lenQ K) (xF1 lenT) := cs_len'.imp fun ts P h => by
  obtain ⟨x, rfl, h⟩ := xf1_inv h
  cases x <;> first | exact h | exact h.2
def int1T (x : T) : Option (Prop × T) := match x with
  | .int i => some (True, .int i)
  | .bl k => some (True, .int (boolI k))
  | _ => none
theorem cs_xInt1 : CalS K mg (fun xs H Q => (∃ i, xs = [.int i] ∧ Q (.int i) H) ∨ ∃ k, xs = [.bl k] ∧ Q (.int (if k then 1 else 0)) H) (xF1 int1T) := cs_int1.imp fun ts P h => by
  obtain ⟨x, rfl, h⟩ := xf1_inv h
  cases x <;> first | exact h | exact h.2
def bool1T (x : T) : Option (Prop × T) := match x with
  | .int i => some (True, .bl (i != 0))
  | .bl k => some (True, .bl k)
  | _ => none
theorem cs_xBool1 : CalS K mg (fun xs H Q => (∃ i, xs = [.int i] ∧ Q (.bl (i != 0)) H) ∨ ∃ k, xs = [.bl k] ∧ Q (.bl k) H) (xF1 bool1T) := cs_bool1.imp fun ts P h => by
  obtain ⟨x, rfl, h⟩ := xf1_inv h
  cases x <;> first | exact h | exact h.2
def str1T (x : T) : Option (Prop × T) := match x with
  | .str a => some (True, .str a)
  | .int i => some (i.natAbs.log2 < 1920, .str (toString i))
  | _ => none
theorem cs_xStr1 : CalS K mg rStr1 (xF1 str1T) := cs_str1.imp fun ts P h => by
  obtain ⟨x, rfl, h⟩ := xf1_inv h
  cases x <;> first | exact h | exact h.2
def listT (x : T) : Option (Prop × T) := match x with
  | .lst us => some (True, .lst us)
  | .tup us => some (True, .lst us)
  | .scr ns => some (True, .lst (ns.map .int))
  | .dct kts => some (True, .lst (kts.map fun p => kT p.1))
  | _ => none
theorem cn_xList : CalN K mg (rListQ K) (xF1 listT) := cn_list.imp fun ts P h => by
  obtain ⟨x, rfl, h⟩ := xf1_inv h
  cases x <;> first | exact h | exact h.2
def tupleT (x : T) : Option (Prop × T) := match x with
  | .lst us => some (True, .tup us)
  | .tup us => some (True, .tup us)
  | .scr ns => some (True, .tup (ns.map .int))
  | _ => none
theorem cs_xTuple : CalS K mg (rTupQ K) (xF1 tupleT) := cs_tuple.imp fun ts P h => by
  obtain ⟨x, rfl, h⟩ := xf1_inv h
  cases x <;> first | exact h | exact h.2
def dictT (x : T) : Option (Prop × T) := match x with
  | .lst us => (toPairs us).map fun k => (True, .dct (mergeT [] k))
  | .dct kts => some (True, .dct kts)
  | _ => none
theorem cn_xDict : CalN K mg (rDictQ K) (xF1 dictT) := cn_dict.imp fun ts P h => by
  obtain ⟨x, rfl, h⟩ := xf1_inv h
  cases x with
  | lst us =>
    have h : omP ((toPairs us).map fun k => (True, .dct (mergeT [] k))) P := h
    cases e : toPairs us with
    | none => rw [e] at h; exact (show False from h).elim
    | some k => rw [e] at h; exact ⟨k, e, h.2⟩
  | dct kts => exact h.2
  | _ => exact (show False from h).elim
/-! ## slices -/
def slLT (x : T) (lo hi : Option Int) : Option T := match x with
  | .lst ts => some (.lst (cutT ts lo hi))
  | .scr ns => some (.lst (cutT (ns.map .int) lo hi))
  | _ => none
def xSlL : GS := fun t lo hi P => om (slLT t lo hi) P
theorem os_xSlL : SlS K mg (rSlL K) xSlL := os_slL.imp fun t lo hi P h => by cases t <;> exact h
theorem on_xSlL : SlN K mg (rSlL K) xSlL := on_slL.imp fun t lo hi P h => by cases t <;> exact h
/-! ## texts -/
def fmtT (x : T) : Option (Prop × T) := match x with
  | .str y => some (y.length ≤ sizeLine, .str y)
  | .int i => some (i.natAbs.log2 < 1920, .str (toString i))
  | _ => none
def xFmt (o : DO) : DE := fun P X ev => o (fun x ev1 => vw ev1 x fun t => omP (fmtT t) fun r => P r ev1) X ev
theorem SndO.mono_eq {o : DO} {P P' : Rf → Ev → Prop} (h : P = P') {X : DX} {ev : Ev} (q : o P X ev) : o P' X ev := h ▸ q
theorem xFmt_eq (o : DO) : xFmt o = dFmt o := by
  funext P X ev
  unfold xFmt dFmt
  congr 1
  funext x ev1
  congr 1
  funext t
  cases t <;> rfl
theorem snd_xFmt {t : TE} {f : DO} (h : Snd K mg E t (dFmt f)) : Snd K mg E t (xFmt f) := by rw [xFmt_eq]; exact h
abbrev DJ := Str → (Str → Ev → Prop) → DX → Ev → Prop
def jNil : DJ := fun acc P _ ev => P acc ev
def jCons (f : DE) (g : DJ) : DJ := fun acc P X ev => f (fun t ev1 => match t with
  | .str y => (acc ++ y).length ≤ sizeLine ∧ g (acc ++ y) P X ev1
  | _ => False) X ev
def xFstr (j : DJ) : DE := fun P X ev => j Str.empty (fun out ev1 => P (.str out) ev1) X ev
def jOf : List DE → DJ
  | [] => jNil
  | f :: fs => jCons f (jOf fs)
theorem jOf_eq : ∀ fs : List DE, jOf fs = fun acc P X ev => dJs fs acc P X ev
  | [] => rfl
  | f :: fs => by
    rw [jOf, jOf_eq fs]
    rfl
theorem snd_xFstr {t : TE} (fs : List DE) (h : Snd K mg E t (dFstr fs)) : Snd K mg E t (xFstr (jOf fs)) := by
  rw [jOf_eq]
  exact h
def seqT (x : T) : Option (List T) := match x with
  | .lst us => some us
  | .tup us => some us
  | _ => none
def joinT (f : DE) (g : DO) : DE := fun P X ev => f (fun t ev1 => match t with
  | .str a => g (fun x ev2 => vw ev2 x fun u => om (seqT u) fun us => ∃ ys, toSs us = some ys ∧ (ys.map (·.length)).sum + ys.length * a.length ≤ 16777216 ∧ P (.str (Txt.join a ys)) ev2) X ev1
  | _ => False) X ev
abbrev xJoin := joinT
theorem xJoin_eq (f : DE) (g : DO) : joinT f g = dJoin f g := by
  funext P X ev
  unfold joinT dJoin
  congr 1
  funext t ev1
  cases t with
  | str a =>
    show g _ X ev1 = g _ X ev1
    congr 1
    funext x ev2
    congr 1
    funext u
    cases u <;> rfl
  | _ => rfl
theorem snd_xJoin {t : TE} {f : DE} {g : DO} (h : Snd K mg E t (dJoin f g)) : Snd K mg E t (joinT f g) := by rw [xJoin_eq]; exact h
/-! ## sorted(.., key=str) -/
def sortP (x : T) : Option (List Str) := match x with
  | .lst us => toSs us
  | .dct kts => keysS (kts.map (·.1))
  | _ => none
def xSort0 (a : DR) : DE := fun P X ev => a (fun rs ev1 => vws ev1 rs fun ts => match ts with
  | [u] => ∃ xs, sortP u = some xs ∧ P (.lst ((sortS xs).map .str)) ev1
  | _ => False) X ev
def xSort (o : DO) : DE := fun P X ev => o (fun x ev1 => vw ev1 x fun u => ∃ xs, sortP u = some xs ∧ P (.lst ((sortS xs).map .str)) ev1) X ev
theorem xSort1_eq (o : DO) : xSort o = xSort0 (drCons o drNil) := rfl
theorem xSort_eq (a : DR) : xSort0 a = dSort a := by
  funext P X ev
  unfold xSort0 dSort
  congr 1
  funext rs ev1
  congr 1
  funext ts
  match ts with
  | [] => rfl
  | [u] => cases u with
    | lst us => rfl
    | dct us => rfl
    | _ => exact propext ⟨fun ⟨_, h, _⟩ => (by cases h), fun h => (show False from h).elim⟩
  | u :: _ :: _ => cases u <;> rfl
theorem snd_xSort {t : TE} {o : DO} (h : SndN K mg E t (dSort (drCons o drNil))) : SndN K mg E t (xSort o) := by rw [xSort1_eq, xSort_eq]; exact h
/-! ## calls -/
def Rt.val : Rt → T
  | .fr t => t
  | .ow t => t
def Rt.isOw : Rt → Prop
  | .fr _ => False
  | .ow _ => True
def xCallF (n : Nat) (S : SpecT) (a : DA) : DE := fun P X ev => a (fun ts ev1 => ts.length = n ∧ S ts ev1.st (fun r st' => P r.val { ev1 with st := st' }) fun x st' => X x { ev1 with st := st' }) X ev
theorem xCallF_eq {n : Nat} {S : SpecT} {a : DA} : xCallF n S a = dCallF n S a := by
  funext P X ev
  unfold xCallF dCallF
  congr 1
  funext ts ev1
  congr 2
  funext r st'
  cases r <;> rfl
theorem snd_xCallF {n : Nat} {S : SpecT} {t : TA} {a : DA} (h : SndA K mg E t a) : Snd K mg E (tFz (tCallS (spF K mg n S) E t)) (xCallF n S a) := by rw [xCallF_eq]; exact snd_callF h
def xCallO (n : Nat) (S : SpecT) (a : DA) : DE := fun P X ev => a (fun ts ev1 => ts.length = n ∧ S ts ev1.st (fun r st' => r.isOw ∧ P r.val { ev1 with st := st' }) fun x st' => X x { ev1 with st := st' }) X ev
theorem xCallO_eq {n : Nat} {S : SpecT} {a : DA} : xCallO n S a = dCallO n S a := by
  funext P X ev
  unfold xCallO dCallO
  congr 1
  funext ts ev1
  congr 2
  funext r st'
  cases r with
  | fr t => exact propext ⟨fun h => (show False from h.1).elim, fun h => (show False from h).elim⟩
  | ow t => exact propext ⟨fun h => h.2, fun h => ⟨trivial, h⟩⟩
theorem snd_xCallO {n : Nat} {S : SpecT} {t : TA} {a : DA} (h : SndA K mg E t a) : SndN K mg E (tCallS (spF K mg n S) E t) (xCallO n S a) := by rw [xCallO_eq]; exact snd_callO h
def xMeth (n : Nat) (c : Str) (S : SpecT) (o : DE) (a : DA) : DE := fun P X ev => o (fun t ev1 => seeI ev1 t c (a (fun ts ev2 => ts.length + 1 = n ∧ S (t :: ts) ev2.st (fun r st' => P r.val { ev2 with st := st' }) fun x st' => X x { ev2 with st := st' }) X ev1)) X ev
theorem xMeth_eq {n : Nat} {c : Str} {S : SpecT} {o : DE} {a : DA} : xMeth n c S o a = dMeth n c S o a := by
  funext P X ev
  unfold xMeth dMeth
  congr 1
  funext t ev1
  congr 2
  funext ts ev2
  congr 2
  funext r st'
  cases r <;> rfl
theorem snd_xMeth {n : Nat} {c m : Str} {S : SpecT} (hm : HasM K mg c m) {ta : TE} {t : TA} {o : DE} {a : DA} (h : Snd K mg E ta o) (ha : SndA K mg E t a) : Snd K mg E (tFz (tMt mg c m (spF K mg n S) E ta t)) (xMeth n c S o a) := by rw [xMeth_eq]; exact snd_meth hm h ha
def xMethO (n : Nat) (c : Str) (S : SpecT) (o : DE) (a : DA) : DE := fun P X ev => o (fun t ev1 => seeI ev1 t c (a (fun ts ev2 => ts.length + 1 = n ∧ S (t :: ts) ev2.st (fun r st' => r.isOw ∧ P r.val { ev2 with st := st' }) fun x st' => X x { ev2 with st := st' }) X ev1)) X ev
theorem xMethO_eq {n : Nat} {c : Str} {S : SpecT} {o : DE} {a : DA} : xMethO n c S o a = dMethO n c S o a := by
  funext P X ev
  unfold xMethO dMethO
  congr 1
  funext t ev1
  congr 2
  funext ts ev2
  congr 2
  funext r st'
  cases r with
  | fr t => exact propext ⟨fun h => (show False from h.1).elim, fun h => (show False from h).elim⟩
  | ow t => exact propext ⟨fun h => h.2, fun h => ⟨trivial, h⟩⟩
theorem snd_xMethO {n : Nat} {c m : Str} {S : SpecT} (hm : HasM K mg c m) {ta : TE} {t : TA} {o : DE} {a : DA} (h : Snd K mg E ta o) (ha : SndA K mg E t a) : SndN K mg E (tMt mg c m (spF K mg n S) E ta t) (xMethO n c S o a) := by rw [xMethO_eq]; exact snd_methO hm h ha
/-! ## a dict in a cell, locked -/
def lkM (ev : Ev) (i : Nat) : Option (Option (Nat × List (Key × T))) := match ev.env[i]? with
  | some (.fr (.cell c)) => match ev.st[c]? with
    | some (false, .dct kts) => some (some (c, kts))
    | _ => none
  | _ => some none
def lkOn (m : Option (Nat × List (Key × T))) (ev : Ev) : Ev := match m with
  | some (c, kts) => { ev with st := ev.st.set c (true, .dct kts) }
  | none => ev
def lkOff (m : Option (Nat × List (Key × T))) (ev : Ev) : Ev := match m with
  | some (c, kts) => { ev with st := ev.st.set c (false, .dct kts) }
  | none => ev
def lkOk (m : Option (Nat × List (Key × T))) (ev : Ev) : Prop := match m with
  | some (c, kts) => ev.st[c]? = some (true, .dct kts)
  | none => True
def lkX (m : Option (Nat × List (Key × T))) (X : DX) : DX := match m with
  | some _ => X0
  | none => X
def xLk (i : Nat) (f : DE) : DE := fun P X ev => om (lkM ev i) fun m => f (fun t ev1 => lkOk m ev1 ∧ P t (lkOff m ev1)) (lkX m X) (lkOn m ev)
theorem xLk_inv {i : Nat} {f : DE} {P : T → Ev → Prop} {X : DX} {ev : Ev} (h : xLk i f P X ev) : dLk i f P X ev := by
  have n0 : (fun (t : T) (ev1 : Ev) => lkOk none ev1 ∧ P t (lkOff none ev1)) = P := by
    funext t ev1
    exact propext ⟨fun h => h.2, fun h => ⟨trivial, h⟩⟩
  unfold xLk lkM at h
  unfold dLk
  cases q : ev.env[i]? with
  | none => simp only [q, om_some, n0] at h; exact h
  | some s =>
    simp only [q] at h
    cases s with
    | no => simp only [om_some, n0] at h; exact h
    | ow t => simp only [om_some, n0] at h; exact h
    | fr t => cases t with
      | cell c =>
        cases q2 : ev.st[c]? with
        | none => simp only [q2] at h; exact h.elim
        | some p =>
          obtain ⟨b, u⟩ := p
          simp only [q2] at h ⊢
          cases b with
          | true => exact (show False from h).elim
          | false => cases u with
            | dct kts => exact h
            | _ => exact (show False from h).elim
      | _ => simp only [om_some, n0] at h; exact h
theorem snd_xLk {i : Nat} {t : TE} {f : DE} (h : Snd K mg E t f) : Snd K mg E (tLk t) (xLk i f) := (snd_lk (i := i) h).imp fun P X ev h => xLk_inv h
/-! ## zip -/
def zipO (ts : List T) : Option (List T) := match ts with
  | [.lst us, .lst ws] => some (zipT us ws)
  | [.tup us, .tup ws] => some (zipT us ws)
  | _ => none
def xZ (f : DA) : DI := fun P X ev => f (fun ts ev1 => om (zipO ts) fun zs => P zs ev1) X ev
theorem xZ_eq (f : DA) : xZ f = diZ f := by
  funext P X ev
  unfold xZ diZ
  congr 1
  funext ts ev1
  match ts with
  | [] => rfl
  | [x] => cases x <;> rfl
  | [x, y] => cases x <;> cases y <;> rfl
  | x :: y :: _ :: _ => cases x <;> cases y <;> rfl
theorem snd_xZ {t : TA} {f : DA} (h : SndA K mg E t f) : SndI K mg E (RZ.iZipA K t) (xZ f) := by rw [xZ_eq]; exact snd_iZip h
end
end Fu
set_option Elab.async false
set_option linter.all false
set_option maxRecDepth 100000
set_option maxHeartbeats 4000000
namespace Fu
open PySem PySem.Spec PyProof.Rows L2 Hv
/-! # lists that stand there, by reckoning alone -/
section
variable {α β : Type} {a b : α} {l m : List α} {n : Nat} {f : α → β}
theorem zMapC : (a :: l).map f = f a :: l.map f := rfl
theorem zMapN : ([] : List α).map f = [] := rfl
theorem zAppC : (a :: l) ++ m = a :: (l ++ m) := rfl
theorem zAppN : [] ++ m = m := rfl
theorem zRepS : List.replicate (n + 1) a = a :: List.replicate n a := rfl
theorem zRep0 : List.replicate 0 a = [] := rfl
theorem zGet0 : (a :: l)[0]? = some a := rfl
theorem zGetS : (a :: l)[n + 1]? = l[n]? := rfl
theorem zSet0 : (a :: l).set 0 b = b :: l := rfl
theorem zSetS : (a :: l).set (n + 1) b = a :: l.set n b := rfl
theorem zLenN : ([] : List α).length = 0 := rfl
theorem zLenC : (a :: l).length = l.length + 1 := rfl
theorem zOMap {x : α} : (some x).map f = some (f x) := rfl
theorem zONone : (none : Option α).map f = none := rfl
theorem zFM : ([] : List α).filterMap (fun x => some x) = [] := rfl
end
def consO {α : Type} (o : Option α) (l : List α) : List α := match o with
  | some x => x :: l
  | none => l
theorem gP_nil {α : Type} {us ws : List α} : gP [] us ws = [] := rfl
theorem gP_cons {α : Type} {i : Nat} {is : List Nat} {us ws : List α} : gP (i :: is) us ws = consO ((us ++ ws)[i]?) (gP is us ws) := by
  unfold gP consO
  rw [List.filterMap_cons]
  cases (us ++ ws)[i]? <;> rfl
/-- a loop whose items have been reckoned -/
def dForB (items : List T) (g : DG) (b : DS) (P : PEnds) (ev1 : Ev) : Prop := ∃ Iv : Nat → Ev → Prop, Iv 0 ev1 ∧
  (∀ (i : Nat) (t : T) (ev2 : Ev), items[i]? = some t → Iv i ev2 → g t (fun ev3 => b { P with nx := Iv (i + 1), ct := Iv (i + 1), bk := P.nx } ev3) P.ex ev2) ∧ ∀ ev2, Iv items.length ev2 → P.nx ev2
theorem dFor_eq {it : DI} {g : DG} {b : DS} {P : PEnds} {ev : Ev} : dFor it g b P ev = it (fun items ev1 => dForB items g b P ev1) P.ex ev := rfl
theorem dForB_at {items : List T} {g : DG} {b : DS} {P : PEnds} {ev1 : Ev} (Iv : Nat → Ev → Prop) (h0 : Iv 0 ev1)
    (hs : ∀ (i : Nat) (t : T) (ev2 : Ev), items[i]? = some t → Iv i ev2 → g t (fun ev3 => b { P with nx := Iv (i + 1), ct := Iv (i + 1), bk := P.nx } ev3) P.ex ev2) (hd : ∀ ev2, Iv items.length ev2 → P.nx ev2) : dForB items g b P ev1 := ⟨Iv, h0, hs, hd⟩
def dLcB (items : List T) (g : DG) (tt : DT) (te : DE) (vs : List Nat) (P : T → Ev → Prop) (ev1 : Ev) : Prop := ∃ Iv : Nat → List T → Ev → Prop, Iv 0 [] (wiped vs ev1) ∧
  (∀ (i : Nat) t acc ev2, items[i]? = some t → Iv i acc ev2 → g t (fun ev3 => tt (fun b ev4 => if b = true then te (fun r ev5 => acc.length < sizeLine ∧ Iv (i + 1) (acc ++ [r]) (wiped vs ev5)) X0 ev4 else Iv (i + 1) acc (wiped vs ev4)) X0 ev3) X0 ev2) ∧
  ∀ acc ev2, Iv items.length acc ev2 → P (.lst acc) (unw vs ev1 ev2)
theorem dLc_eq {it : DI} {g : DG} {tt : DT} {te : DE} {vs : List Nat} {P : T → Ev → Prop} {X : DX} {ev : Ev} : dLc it g tt te vs P X ev = it (fun items ev1 => dLcB items g tt te vs P ev1) X ev := rfl
theorem dLcB_at {items : List T} {g : DG} {tt : DT} {te : DE} {vs : List Nat} {P : T → Ev → Prop} {ev1 : Ev} (Iv : Nat → List T → Ev → Prop) (h0 : Iv 0 [] (wiped vs ev1))
    (hs : ∀ (i : Nat) (t : T) (acc : List T) (ev2 : Ev), items[i]? = some t → Iv i acc ev2 → g t (fun ev3 => tt (fun b ev4 => if b = true then te (fun r ev5 => acc.length < sizeLine ∧ Iv (i + 1) (acc ++ [r]) (wiped vs ev5)) X0 ev4 else Iv (i + 1) acc (wiped vs ev4)) X0 ev3) X0 ev2)
    (hd : ∀ acc ev2, Iv items.length acc ev2 → P (.lst acc) (unw vs ev1 ev2)) : dLcB items g tt te vs P ev1 := ⟨Iv, h0, hs, hd⟩
theorem dLcB_map {items : List T} {g : DG} {te : DE} {vs : List Nat} {P : T → Ev → Prop} {ev1 : Ev} (f : T → T) (hl : items.length ≤ sizeLine)
    (hs : ∀ (t : T) (Q : T → Ev → Prop), t ∈ items → (∀ ev5, wiped vs ev5 = wiped vs ev1 → Q (f t) ev5) → g t (fun ev3 => te Q X0 ev3) X0 (wiped vs ev1))
    (hd : P (.lst (items.map f)) (unw vs ev1 (wiped vs ev1))) : dLcB items g dYes te vs P ev1 :=
  dLc_map (it := fun Q _ _ => Q items ev1) (X := X0) (ev := ev1) f (fun Q h => h) hl hs hd
theorem dLcB_fmap {items : List T} {g : DG} {tt : DT} {te : DE} {vs : List Nat} {P : T → Ev → Prop} {ev1 : Ev} (f : T → Option T) (hl : items.length ≤ sizeLine)
    (hs : ∀ (t : T) (Q : T → Ev → Prop) (N : Ev → Prop), t ∈ items → (∀ r ev5, f t = some r → wiped vs ev5 = wiped vs ev1 → Q r ev5) → (∀ ev5, f t = none → wiped vs ev5 = wiped vs ev1 → N ev5) → g t (fun ev3 => tt (fun b ev4 => if b = true then te Q X0 ev4 else N ev4) X0 ev3) X0 (wiped vs ev1))
    (hd : P (.lst (items.filterMap f)) (unw vs ev1 (wiped vs ev1))) : dLcB items g tt te vs P ev1 :=
  dLc_fmap (it := fun Q _ _ => Q items ev1) (X := X0) (ev := ev1) f (fun Q h => h) hl hs hd
def dDcB (items : List T) (g : DG) (tt : DT) (tk tv : DE) (vs : List Nat) (P : T → Ev → Prop) (ev1 : Ev) : Prop := ∃ Iv : Nat → List (Key × T) → Ev → Prop, Iv 0 [] (wiped vs ev1) ∧
  (∀ (i : Nat) t acc ev2, items[i]? = some t → Iv i acc ev2 → g t (fun ev3 => tt (fun b ev4 => if b = true then tk (fun kt ev5 => tv (fun r ev6 => ∃ k, toKey kt = some k ∧ acc.length < sizeLine ∧ Iv (i + 1) (putT acc k r) (wiped vs ev6)) X0 ev5) X0 ev4 else Iv (i + 1) acc (wiped vs ev4)) X0 ev3) X0 ev2) ∧
  ∀ acc ev2, Iv items.length acc ev2 → P (.dct acc) (unw vs ev1 ev2)
theorem dDc_eq {it : DI} {g : DG} {tt : DT} {tk tv : DE} {vs : List Nat} {P : T → Ev → Prop} {X : DX} {ev : Ev} : dDc it g tt tk tv vs P X ev = it (fun items ev1 => dDcB items g tt tk tv vs P ev1) X ev := rfl
theorem dDcB_at {items : List T} {g : DG} {tt : DT} {tk tv : DE} {vs : List Nat} {P : T → Ev → Prop} {ev1 : Ev} (Iv : Nat → List (Key × T) → Ev → Prop) (h0 : Iv 0 [] (wiped vs ev1))
    (hs : ∀ (i : Nat) (t : T) (acc : List (Key × T)) (ev2 : Ev), items[i]? = some t → Iv i acc ev2 → g t (fun ev3 => tt (fun b ev4 => if b = true then tk (fun kt ev5 => tv (fun r ev6 => ∃ k, toKey kt = some k ∧ acc.length < sizeLine ∧ Iv (i + 1) (putT acc k r) (wiped vs ev6)) X0 ev5) X0 ev4 else Iv (i + 1) acc (wiped vs ev4)) X0 ev3) X0 ev2)
    (hd : ∀ acc ev2, Iv items.length acc ev2 → P (.dct acc) (unw vs ev1 ev2)) : dDcB items g tt tk tv vs P ev1 := ⟨Iv, h0, hs, hd⟩
theorem dDcB_map {items : List T} {g : DG} {tk tv : DE} {vs : List Nat} {P : T → Ev → Prop} {ev1 : Ev} (f : T → Key × T) (hl : items.length ≤ sizeLine) (nd : (items.map fun t => (f t).1).Nodup)
    (hs : ∀ (t : T) (Q : T → T → Ev → Prop), t ∈ items → (∀ kt ev5, toKey kt = some (f t).1 → wiped vs ev5 = wiped vs ev1 → Q kt (f t).2 ev5) → g t (fun ev3 => tk (fun kt ev5 => tv (Q kt) X0 ev5) X0 ev3) X0 (wiped vs ev1))
    (hd : P (.dct (items.map f)) (unw vs ev1 (wiped vs ev1))) : dDcB items g dYes tk tv vs P ev1 :=
  dDc_map (it := fun Q _ _ => Q items ev1) (X := X0) (ev := ev1) f (fun Q h => h) hl nd hs hd
def dLc2I (items1 : List T) (g1 : DG) (tt1 : DT) (te : DE) (vs1 : List Nat) (acc : List T) (N : List T → Ev → Prop) (ev5 : Ev) : Prop := ∃ Iw : Nat → List T → Ev → Prop, Iw 0 acc (wiped vs1 ev5) ∧
  (∀ (j : Nat) u acc' ev6, items1[j]? = some u → Iw j acc' ev6 → g1 u (fun ev7 => tt1 (fun b1 ev8 => if b1 = true then te (fun r ev9 => acc'.length < sizeLine ∧ Iw (j + 1) (acc' ++ [r]) (wiped vs1 ev9)) X0 ev8 else Iw (j + 1) acc' (wiped vs1 ev8)) X0 ev7) X0 ev6) ∧
  ∀ acc' ev6, Iw items1.length acc' ev6 → N acc' ev6
def dLc2B (items : List T) (g : DG) (tt : DT) (it1 : DI) (g1 : DG) (tt1 : DT) (te : DE) (vs vs1 : List Nat) (P : T → Ev → Prop) (ev1 : Ev) : Prop := ∃ Iv : Nat → List T → Ev → Prop, Iv 0 [] (wiped vs ev1) ∧
  (∀ (i : Nat) t acc ev2, items[i]? = some t → Iv i acc ev2 → g t (fun ev3 => tt (fun b ev4 => if b = true then it1 (fun items1 ev5 => dLc2I items1 g1 tt1 te vs1 acc (fun acc' ev6 => Iv (i + 1) acc' (wiped vs ev6)) ev5) X0 ev4
    else Iv (i + 1) acc (wiped vs ev4)) X0 ev3) X0 ev2) ∧
  ∀ acc ev2, Iv items.length acc ev2 → P (.lst acc) (unw vs ev1 ev2)
theorem dLc2_eq {it : DI} {g : DG} {tt : DT} {it1 : DI} {g1 : DG} {tt1 : DT} {te : DE} {vs vs1 : List Nat} {P : T → Ev → Prop} {X : DX} {ev : Ev} : dLc2 it g tt it1 g1 tt1 te vs vs1 P X ev = it (fun items ev1 => dLc2B items g tt it1 g1 tt1 te vs vs1 P ev1) X ev := rfl
/-- element by element, nothing else changes -/
theorem dLc2I_map {items1 : List T} {g1 : DG} {te : DE} {vs1 : List Nat} {acc : List T} {N : List T → Ev → Prop} {ev5 : Ev} (f : T → T) (hl : acc.length + items1.length ≤ sizeLine)
    (hs : ∀ (t : T) (Q : T → Ev → Prop), t ∈ items1 → (∀ ev, wiped vs1 ev = wiped vs1 ev5 → Q (f t) ev) → g1 t (fun ev3 => te Q X0 ev3) X0 (wiped vs1 ev5))
    (hd : N (acc ++ items1.map f) (wiped vs1 ev5)) : dLc2I items1 g1 dYes te vs1 acc N ev5 := by
  refine ⟨fun i a ev2 => ev2 = wiped vs1 ev5 ∧ a = acc ++ (items1.take i).map f, ⟨rfl, by simp⟩, ?_, ?_⟩
  · rintro i t a ev2 e ⟨rfl, rfl⟩
    have hi := (List.getElem?_eq_some_iff.mp e).1
    refine hs t _ (List.mem_of_getElem? e) fun ev h => ⟨?_, h, ?_⟩
    · rw [List.length_append, List.length_map, List.length_take]; omega
    · rw [take_get e, List.map_append, List.append_assoc]; rfl
  · rintro a ev2 ⟨rfl, rfl⟩
    rw [List.take_length]
    exact hd
theorem dLc2B_map {items : List T} {g : DG} {it1 : DI} {g1 : DG} {te : DE} {vs vs1 : List Nat} {P : T → Ev → Prop} {ev1 : Ev} (f : T → List T)
    (hs : ∀ (t : T) (acc : List T) (N : List T → Ev → Prop), t ∈ items → (∀ ev6, wiped vs ev6 = wiped vs ev1 → N (acc ++ f t) ev6) → acc.length + (f t).length ≤ (items.flatMap f).length → g t (fun ev3 => it1 (fun items1 ev5 => dLc2I items1 g1 dYes te vs1 acc N ev5) X0 ev3) X0 (wiped vs ev1))
    (hd : P (.lst (items.flatMap f)) (unw vs ev1 (wiped vs ev1))) : dLc2B items g dYes it1 g1 dYes te vs vs1 P ev1 := by
  refine ⟨fun i a ev2 => ev2 = wiped vs ev1 ∧ a = (items.take i).flatMap f, ⟨rfl, by simp⟩, ?_, ?_⟩
  · rintro i t a ev2 e ⟨rfl, rfl⟩
    refine hs t _ (fun acc' ev6 => wiped vs ev6 = wiped vs ev1 ∧ acc' = (items.take (i + 1)).flatMap f) (List.mem_of_getElem? e) (fun ev h => ⟨h, ?_⟩) ?_
    · rw [take_get e, List.flatMap_append]; simp
    · have h2 : items.flatMap f = (items.take (i + 1)).flatMap f ++ (items.drop (i + 1)).flatMap f := by rw [← List.flatMap_append, List.take_append_drop]
      rw [h2, take_get e, List.flatMap_append, List.length_append, List.length_append]
      simp
  · rintro a ev2 ⟨rfl, rfl⟩
    rw [List.take_length]
    exact hd
/-- found, however it came -/
theorem om_ex {α : Type} {o : Option α} {P : α → Prop} {t : α} (e : o = some t) (h : P t) : om o P := by rw [e]; exact h
end Fu
set_option Elab.async false
set_option linter.all false
set_option maxRecDepth 100000
set_option maxHeartbeats 4000000
namespace Fu
open PySem PySem.Spec PyProof.Rows L2 Hv
/-! # data compared -/
theorem str_beq {a b : Str} : (a == b) = decide (a = b) := by
  by_cases h : a = b
  · subst h; simp
  · rw [decide_eq_false h]; simpa using h
theorem eqT_int {i j : Int} : eqT (.int i) (.int j) = some (decide (i = j)) := by
  rw [eqT_of (x := .int i) (y := .int j) (d := .int i) (e := .int j) rfl rfl (by simp [PyData.depth])]
  rfl
theorem eqT_bl {i j : Bool} : eqT (.bl i) (.bl j) = some (i == j) := by
  rw [eqT_of (x := .bl i) (y := .bl j) (d := .bool i) (e := .bool j) rfl rfl (by simp [PyData.depth])]
  simp [PyData.eqv]
theorem eqT_str {i j : Str} : eqT (.str i) (.str j) = some (decide (i = j)) := by
  rw [eqT_of (x := .str i) (y := .str j) (d := .str i) (e := .str j) rfl rfl (by simp [PyData.depth])]
  simp [PyData.eqv, str_beq]
theorem toP_str (x : Str) : toP (.str x) = some (.str x) := rfl
theorem toPs_str : ∀ xs : List Str, toPs (xs.map .str) = some (xs.map .str)
  | [] => rfl
  | x :: xs => by rw [List.map_cons, toPs, toP, toPs_str xs]; rfl
theorem toPs_int : ∀ xs : List Int, toPs (xs.map .int) = some (xs.map .int)
  | [] => rfl
  | x :: xs => by rw [List.map_cons, toPs, toP, toPs_int xs]; rfl
theorem toPs_map {α : Type} {f : α → T} {g : α → PyData} : ∀ {xs : List α}, (∀ x ∈ xs, toP (f x) = some (g x)) → toPs (xs.map f) = some (xs.map g)
  | [], _ => rfl
  | x :: xs, h => by rw [List.map_cons, toPs, h x List.mem_cons_self, toPs_map fun y hy => h y (List.mem_cons_of_mem _ hy)]; rfl
theorem dAll_le {n : Nat} : ∀ {ds : List PyData}, (∀ d ∈ ds, d.depth ≤ n) → PyData.depthAll ds ≤ n
  | [], _ => Nat.zero_le _
  | d :: ds, h => by
    rw [PyData.depthAll]
    exact Nat.max_le.mpr ⟨h d List.mem_cons_self, dAll_le fun y hy => h y (List.mem_cons_of_mem _ hy)⟩
theorem dLst_le {n : Nat} {ds : List PyData} (h : ∀ d ∈ ds, d.depth ≤ n) : (PyData.list ds).depth ≤ n + 1 := by
  rw [PyData.depth]; exact Nat.succ_le_succ (dAll_le h)
theorem dTup_le {n : Nat} {ds : List PyData} (h : ∀ d ∈ ds, d.depth ≤ n) : (PyData.tuple ds).depth ≤ n + 1 := by
  rw [PyData.depth]; exact Nat.succ_le_succ (dAll_le h)
mutual
theorem eqv_self : ∀ {t : T} {d : PyData}, toP t = some d → PyData.eqv d d = true
  | .non, _, e => by cases e; rfl
  | .bl b, _, e => by cases e; simp [PyData.eqv]
  | .int b, _, e => by cases e; simp [PyData.eqv]
  | .str b, _, e => by cases e; simp [PyData.eqv]
  | .lst ts, _, e => by
    rw [toP, Option.map_eq_some_iff] at e
    obtain ⟨ds, e, rfl⟩ := e
    rw [PyData.eqv]
    exact eqvs_self e
  | .tup ts, _, e => by
    rw [toP, Option.map_eq_some_iff] at e
    obtain ⟨ds, e, rfl⟩ := e
    rw [PyData.eqv]
    exact eqvs_self e
  | .scr _, _, e => by simp [toP] at e
  | .dct _, _, e => by simp [toP] at e
  | .ins _ _, _, e => by simp [toP] at e
  | .glob _, _, e => by simp [toP] at e
  | .cell _, _, e => by simp [toP] at e
  | .exc _ _ _ _, _, e => by simp [toP] at e
  | .ev _ _, _, e => by simp [toP] at e
  | .ty _, _, e => by simp [toP] at e
theorem eqvs_self : ∀ {ts : List T} {ds : List PyData}, toPs ts = some ds → PyData.eqvAll ds ds = true
  | [], _, e => by cases e; rfl
  | t :: ts, _, e => by
    rw [toPs] at e
    split at e
    · rename_i d ds' h1 h2
      cases e
      rw [PyData.eqvAll, eqv_self h1, eqvs_self h2]
      rfl
    · cases e
end
theorem eqT_refl {t : T} {d : PyData} (h : toP t = some d) (hd : d.depth ≤ 60) : eqT t t = some true := by
  rw [eqT_of h h (by omega), eqv_self h]
theorem inL_str {xs : List Str} {x : Str} : inL (xs.map .str) (.str x) = some (decide (x ∈ xs)) := by
  unfold inL
  rw [toP_str, toPs_str]
  have h0 : (PyData.str x).depth ≤ 60 := by simp [PyData.depth]
  simp only [if_pos h0]
  congr 1
  unfold hasD
  rw [List.any_map, Bool.eq_iff_iff]
  simp [PyData.eqv]
theorem inL_nil {x : T} {d : PyData} (h : toP x = some d) (hd : d.depth ≤ 60) : inL [] x = some false := by
  unfold inL
  rw [h]
  simp only [toPs]
  rw [if_pos hd]
  rfl
theorem inL_strN {x : Str} : inL [] (.str x) = some false := inL_nil (d := .str x) rfl (by simp [PyData.depth])
end Fu
set_option Elab.async false
set_option linter.all false
set_option maxRecDepth 100000
set_option maxHeartbeats 4000000
namespace Fu
open PySem PySem.Spec PyProof.Rows L2 Hv
/-! # [.. for k, v in d.items()], d a dict in a cell, locked meanwhile -/
section
variable {K : PySem.W.Frag} {mg : Str → Option Value} {E : L2.St → XK}
theorem lk_pv {D : En} {as : List Addr} {G H : Hp} {ev : Ev} {σ : L2.St} {P : T → Ev → Prop} {Q : VK} {c : Nat} {a : Addr} {o : HO} {kts : List (Key × T)} (R : Rel K mg D as G ev σ H) (hP : PV K mg D as G σ P Q) (es : ev.st[c]? = some (false, .dct kts)) (ea : as[c]? = some a) (ob : Obj' K mg as G (.dct kts) o) (hH : H a = some o) (od : Obj) :
    Rel K mg (reEn D as (upd H a (.frz od o))) as G { ev with st := ev.st.set c (true, .dct kts) } σ (upd H a (.frz od o)) ∧
    PV K mg (reEn D as (upd H a (.frz od o))) as G σ (fun t ev1 => ev1.st[c]? = some (true, .dct kts) ∧ P t { ev1 with st := ev1.st.set c (false, .dct kts) }) (fun v H' => H' a = some (.frz od o) ∧ Q v (upd H' a o)) := by
  have nfz : ∀ ob u, H a ≠ some (.frz ob u) := fun ob' u e => by
    rw [hH] at e
    cases e
    cases ob
  have mem : a ∈ as := List.mem_of_getElem? ea
  have R1 := R.lock (l' := true) (h := .frz od o) es ea ob nfz (by unfold Ats; rw [if_pos rfl]; exact ⟨od, upd_same⟩)
  have nf : ∀ b ob u, b ∈ as → D.H b = some (.frz ob u) → (upd H a (.frz od o)) b = some (.frz ob u) := fun b ob' u hb e => by
    have := R.c.lk b ob' u e
    rw [upd_ne (fun z => nfz ob' u (by rw [← z]; exact this))]
    exact this
  refine ⟨R1.re, fun r ev1 as1 G1 v H1 ⟨e1, p⟩ R2 x tv1 => ?_⟩
  have ea1 : as1[c]? = some a := by obtain ⟨m, e⟩ := x.more; rw [e]; exact ext_get ea
  have fz : H1 a = some (.frz od o) := R2.c.lk a od o (by show (if a ∈ as then _ else _) = _; rw [if_pos mem]; exact upd_same)
  refine ⟨fz, ?_⟩
  have R3 := Rel.unre R1 nf R2
  have mem1 : a ∈ as1 := List.mem_of_getElem? ea1
  have nD : ∀ ob u, D.H a ≠ some (.frz ob u) := fun ob' u e => nfz ob' u (R.c.lk a ob' u e)
  have RS := R3.s.lock (l' := false) (h := o) e1 ea1 (ob.mono x) (by unfold Ats; rw [if_neg (by simp)]; exact upd_same)
  refine hP r _ as1 G1 v _ p ⟨RS, ⟨R3.c.more, R3.c.g, R3.c.gn, fun b u n e => ?_, fun b hb => ?_, fun b ob' u e => ?_⟩, R3.len, R3.fr, fun j u e => ?_, R3.sep⟩ x tv1
  · by_cases z : b = a
    · subst z
      have := R3.c.fr b u n e
      rw [fz] at this
      cases this
      exact absurd e (nD _ _)
    · rw [upd_ne z]; exact R3.c.fr b u n e
  · by_cases z : b = a
    · rw [z, upd_same] at hb; cases hb
    · rw [upd_ne z] at hb; exact R3.c.keep b hb
  · rw [upd_ne (fun z => nD ob' u (by rw [← z]; exact e))]; exact R3.c.lk b ob' u e
  · obtain ⟨b, h2, h3⟩ := R3.ow j u e
    exact ⟨b, h2, h3.mono Ext.refl h3.g (upd_ne fun z => h3.na (by rw [z]; exact mem1))⟩
theorem wk_items {D : En} {as : List Addr} {G : Hp} {a : Addr} {od : Obj} {kts : List (Key × T)} {kvs : List (Key × V)} (hD : D.H a = some (.frz od (.dK kvs))) (tk : TKs K mg as G kts kvs) : Wk K mg D (Iti a od kvs) (kts.map fun p => .tup [kT p.1, p.2]) as G := by
  refine ⟨fun as2 G2 H2 i t x ⟨s, l⟩ et => ?_, fun as2 G2 H2 x ⟨s, l⟩ => ?_⟩
  · rw [List.getElem?_map] at et
    obtain ⟨⟨k, u⟩, hk, rfl⟩ := Option.map_eq_some_iff.mp et
    obtain ⟨v, hv, tv1⟩ := ks_get tk hk
    refine ⟨⟨l _ _ _ hD, (List.getElem?_eq_some_iff.mp hv).1⟩, fun y H3 yl => ?_⟩
    obtain ⟨Tp, k', v', h1, rfl, hT, rfl⟩ := yl
    rw [hv] at h1
    cases h1
    exact .inr ⟨Tp, _, hT, rfl, new_tup (s.free hT) (.cons (kT_tv k) (.cons (tv1.mono x) .nil))⟩
  · refine ⟨l _ _ _ hD, ?_⟩
    have := tk.length
    rw [List.length_map]
    omega
def xLkLc (i : Nat) (d : DG) (dt : DT) (f : DE) (vs : List Nat) : DE := fun P X ev => match lkM ev i with
  | some (some m) => dLcB (m.2.map fun p => .tup [kT p.1, p.2]) d dt f vs (fun t ev1 => lkOk (some m) ev1 ∧ P t (lkOff (some m) ev1)) (lkOn (some m) ev)
  | some none => diI (xVar i) (fun items ev1 => dLcB items d dt f vs P ev1) X ev
  | none => False
theorem snd_xLkLc {i : Nat} {g : TG} {tt : TT} {te : TE} {vs : List Nat} {d : DG} {dt : DT} {f : DE} (hg : SndW K mg E0 vs g d) (ht : SndT K mg E0 tt dt) (he : Snd K mg E0 te f) :
    Snd K mg E (tLk (tFz (tLc (iItems (tFz (tVar i))) g tt te vs))) (xLkLc i d dt f vs) := fun D as G ev σ H Q P X R h hP hX => by
  have no : diI (xVar i) (fun items ev1 => dLcB items d dt f vs P ev1) X ev → tLk (tFz (tLc (iItems (tFz (tVar i))) g tt te vs)) σ H Q := fun h => .inl (snd_fz (snd_lc (snd_iItems snd_xVar) hg ht he) D as G ev σ H Q P X R h hP hX)
  unfold xLkLc lkM at h
  cases q : ev.env[i]? with
  | none => simp only [q] at h; exact no h
  | some s =>
    simp only [q] at h
    cases s with
    | no => exact no h
    | ow t => exact no h
    | fr t => cases t with
      | cell c =>
        cases q2 : ev.st[c]? with
        | none => simp only [q2] at h
        | some p =>
          obtain ⟨b, u⟩ := p
          simp only [q2] at h
          cases b with
          | true => exact (show False from h).elim
          | false => cases u with
            | dct kts =>
              obtain ⟨w, h1, tv⟩ := R.fr i _ q
              cases tv with
              | cell ea =>
                rename_i a
                obtain ⟨g0, o, ob, at_⟩ := R.s.cell c _ a q2 ea
                have hH : H a = some o := by unfold Ats at at_; rw [if_neg (by simp)] at at_; exact at_
                have mem : a ∈ as := List.mem_of_getElem? ea
                refine .inr ⟨a, o, hH, ob.mut, fun od => ?_⟩
                obtain ⟨R2, PV2⟩ := lk_pv R hP q2 ea ob hH od
                have tk0 := ob
                cases tk0 with
                | dct n b =>
                  rename_i kvs
                  refine ⟨.ref a, h1, .inl ⟨a, od, kvs, rfl, upd_same, ?_⟩⟩
                  exact lc_run (Q := fun v H1 => (H1 a = some (.frz od (.dK kvs)) ∧ Q v (upd H1 a (.dK kvs))) ∨ ∃ d u, v = .ref d ∧ H1 d = some u ∧ Mut (some u) ∧ ∀ od', (upd H1 d (.frz od' u)) a = some (.frz od (.dK kvs)) ∧ Q v (upd (upd H1 d (.frz od' u)) a (.dK kvs))) hg ht he R2 (fun r ev' as' G' a' H' p R' x O nw => own_stay (Q := fun v H' => H' a = some (.frz od (.dK kvs)) ∧ Q v (upd H' a (.dK kvs))) R' O nw fun G3 H3 R3 x3 tv3 => PV2 r ev' as' G3 _ H3 p R3 (x.trans x3) tv3) h
                    (wk_items (by show (if a ∈ as then _ else _) = _; rw [if_pos mem]; exact upd_same) ⟨n, b⟩)
            | _ => exact (show False from h).elim
      | _ => exact no h
end
end Fu
set_option Elab.async false
set_option linter.all false
set_option maxRecDepth 100000
set_option maxHeartbeats 4000000
namespace Fu
open PySem PySem.Spec PyProof.Rows L2 Hv
/-! # the head's facts, asked of the written part -/
section
variable {K : PySem.W.Frag} {h : Heap} {mg : Str → Option Value}
theorem ga_of (X : K.In h) (G : h.Ns mainGlobals mg) {x : Str} {C : Addr} (c : (He.Fa.glo x).ok K = true) (m : mg x = some (.ref C)) : C = He.ga K x := by
  have := He.glo_ok X G c
  rw [m] at this
  cases this
  rfl
theorem tagV_u (X : K.In h) (G : h.Ns mainGlobals mg) {g : Tag} {u : Value} (c : tagB K g = true) (t : TagV mg g u) : u = tagU K g := by
  cases t with
  | ty n => rfl
  | own m => rw [ga_of X G c m]; rfl
theorem isB_ok (X : K.In h) (G : h.Ns mainGlobals mg) {t : List (Tag × Tag × Bool)} (c : isB K t = true) : IsF K mg fun g c => (t.find? fun p => decide (p.1 = g ∧ p.2.1 = c)).map (·.2.2) := by
  refine ⟨fun a b x y r ha hb hq => ?_⟩
  obtain ⟨p, hp, rfl⟩ := Option.map_eq_some_iff.mp hq
  have e0 := List.find?_some hp
  obtain ⟨rfl, rfl⟩ := of_decide_eq_true e0
  have := List.all_eq_true.mp c p (List.mem_of_find?_eq_some hp)
  obtain ⟨c1, this⟩ := band this
  obtain ⟨c2, c3⟩ := band this
  rw [tagV_u X G c1 ha, tagV_u X G c2 hb]
  exact of_decide_eq_true c3
theorem ixB_ok (X : K.In h) (G : h.Ns mainGlobals mg) {t : List (Str × Tag × Bool)} (c : ixB K t = true) (ex : ∀ p ∈ t, ExcC K (He.ga K p.1)) : IxF K mg fun x c => (t.find? fun p => decide (p.1 = x ∧ p.2.1 = c)).map (·.2.2) := by
  refine ⟨fun x D g u b hx hg hq => ?_⟩
  obtain ⟨p, hp, rfl⟩ := Option.map_eq_some_iff.mp hq
  have e0 := List.find?_some hp
  obtain ⟨rfl, rfl⟩ := of_decide_eq_true e0
  have hm := List.mem_of_find?_eq_some hp
  obtain ⟨c1, this⟩ := band (List.all_eq_true.mp c p hm)
  obtain ⟨c2, c3⟩ := band this
  rw [tagV_u X G c2 hg, ga_of X G c1 hx]
  exact ⟨ex p hm, of_decide_eq_true c3⟩
theorem hdB_ok (X : K.In h) (G : h.Ns mainGlobals mg) {c : Str} {t : List (Str × Bool)} (hb : hdB K c t = true) (C : Addr) (m : mg c = some (.ref C)) : HdF K mg (.ref C) fun x => (t.find? fun p => decide (p.1 = x)).map (·.2) := by
  obtain ⟨h1, h2⟩ := band hb
  rw [ga_of X G h1 m]
  refine ⟨fun x D b hx hq => ?_⟩
  obtain ⟨p, hp, rfl⟩ := Option.map_eq_some_iff.mp hq
  have e0 := List.find?_some hp
  obtain rfl := of_decide_eq_true e0
  obtain ⟨c1, c2⟩ := band (List.all_eq_true.mp h2 p (List.mem_of_find?_eq_some hp))
  rw [ga_of X G c1 hx]
  exact of_decide_eq_true c2
theorem nfB_ok (X : K.In h) (G : h.Ns mainGlobals mg) {c : Str} {t : List Tag} (hb : nfB K c t = true) : NfF K mg c fun g => t.any fun p => decide (p = g) := by
  obtain ⟨h1, h2⟩ := band hb
  refine ⟨fun C g u m hq hg => ?_⟩
  obtain ⟨p, hp, e⟩ := List.any_eq_true.mp hq
  obtain rfl := of_decide_eq_true e
  obtain ⟨c1, c2⟩ := band (List.all_eq_true.mp h2 p hp)
  rw [ga_of X G h1 m, tagV_u X G c1 hg]
  exact c2
theorem conB_ok {C : Addr} {f : Str} {t : T} (c : conB K C f t = true) : ∃ v u, Con K C f v u ∧ ∀ as G, TV K mg as G t v := by
  unfold conB at c
  split at c
  · rename_i i j tk e
    obtain ⟨c1, c⟩ := band c
    obtain ⟨c2, c3⟩ := band c
    obtain rfl := of_decide_eq_true c1
    exact ⟨.int i, .int i tk, ⟨e, ⟨tk, rfl⟩, of_decide_eq_true c2, by simpa using c3⟩, fun _ _ => .int i⟩
  · cases c
theorem coB_ok (X : K.In h) (G : h.Ns mainGlobals mg) {t : List ((Str × Str) × T)} (c : coB K t = true) : CoF K mg fun c f => (t.find? fun p => decide (p.1 = (c, f))).map (·.2) := by
  refine ⟨fun c C f u m hq => ?_⟩
  obtain ⟨p, hp, rfl⟩ := Option.map_eq_some_iff.mp hq
  have e0 := List.find?_some hp
  have e := of_decide_eq_true e0
  obtain ⟨c1, c2⟩ := band (List.all_eq_true.mp ‹coB K t = true› p (List.mem_of_find?_eq_some hp))
  rw [e] at c1 c2
  rw [ga_of X G c1 m]
  exact conB_ok c2
theorem ccB_ok (X : K.In h) (G : h.Ns mainGlobals mg) {t : List ((Str × Str) × T)} (hc : ccB K t = true) : CcF K mg fun c f => (t.find? fun p => decide (p.1 = (c, f))).map (·.2) := by
  refine ⟨fun c C f u m hq => ?_⟩
  obtain ⟨p, hp, rfl⟩ := Option.map_eq_some_iff.mp hq
  have e0 := List.find?_some hp
  have e := of_decide_eq_true e0
  obtain ⟨c1, c2⟩ := band (List.all_eq_true.mp hc p (List.mem_of_find?_eq_some hp))
  obtain ⟨c2, c3⟩ := band c2
  obtain ⟨c3, c4⟩ := band c3
  rw [e] at c1 c2 c3 c4
  rw [ga_of X G c1 m]
  unfold ccvB at c4
  split at c4
  · rename_i i j tk e1 e2
    obtain rfl := of_decide_eq_true c4
    refine ⟨.type "type", .int i, .int i tk, ⟨c2, of_decide_eq_true c3⟩, ⟨e2, ⟨tk, rfl⟩⟩, fun _ _ => ?_⟩
    rw [e1]
    exact .int i
  · cases c4
theorem flB_ok (X : K.In h) (G : h.Ns mainGlobals mg) {t : List (Str × List Str)} (hc : flB K t = true) : FlF K mg fun c => ((t.find? fun p => decide (p.1 = c)).map (·.2)).getD [] := by
  refine ⟨fun c C f m hf => ?_⟩
  have hf : f ∈ ((t.find? fun p => decide (p.1 = c)).map (·.2)).getD [] := hf
  cases q : t.find? fun p => decide (p.1 = c) with
  | none => rw [q] at hf; cases hf
  | some p =>
    have hf2 : f ∈ p.2 := by rw [q] at hf; exact hf
    have e0 := List.find?_some q
    obtain rfl := of_decide_eq_true e0
    obtain ⟨c1, c2⟩ := band (List.all_eq_true.mp hc p (List.mem_of_find?_eq_some q))
    rw [ga_of X G c1 m]
    exact He.noat_ok (List.all_eq_true.mp c2 f hf2)
structure Pl (K : PySem.W.Frag) (mg : Str → Option Value) (c : Str) : Prop where
  gC : mg c = some (.ref (He.ga K c))
  cls : Cls K (He.ga K c)
  mkr : Mk K (He.ga K c) (He.ma K (He.ga K c) "__init__")
  ha : PySem.W.findIn K (.ref (He.ga K c)) "__class__" = some (some (.builtin "object.__class__"))
  hm : PySem.W.mroIn K (He.ga K c) (.type "object") = some true
theorem plB_ok (X : K.In h) (G : h.Ns mainGlobals mg) {c : Str} (hc : plB K c = true) : Pl K mg c := by
  obtain ⟨c1, hc⟩ := band hc
  obtain ⟨c2, hc⟩ := band hc
  obtain ⟨c3, hc⟩ := band hc
  obtain ⟨c4, c5⟩ := band hc
  exact ⟨He.glo_ok X G c1, He.cls_ok c2, He.mkr_ok c3, of_decide_eq_true c4, of_decide_eq_true c5⟩
theorem Pl.mkf {c : Str} (p : Pl K mg c) (a : allB K = true) : MkF K mg c := by
  obtain ⟨a1, a2⟩ := band a
  exact ⟨_, p.gC, p.cls, fun q hq => (nomatch hq), p.ha, of_decide_eq_true a1, of_decide_eq_true a2, p.hm⟩
theorem Pl.mkc {c : Str} (p : Pl K mg c) : MkC K mg c := ⟨_, p.gC, p.mkr.makes, p.mkr.kp⟩
theorem Pl.nec {c : Str} (p : Pl K mg c) (h : neB K c = true) : NeC K mg c := ⟨fun C m => by
  rw [p.gC] at m
  cases m
  exact ⟨p.hm, of_decide_eq_true h⟩⟩
theorem Pl.met {c m qual : Str} {st : Stmt} {ps : List Str} {fd : FuncData} (p : Pl K mg c) (hm : (He.Fa.meth c m).ok K = true) (F : FunD K m qual (defArgs st) (defBody st) (defScope st) [] [] (He.ma K (He.ga K c) m) fd) (b : Binds K fd ps []) : MetDef K mg c m qual st ps :=
  ⟨_, _, _, p.gC, p.cls, He.meth_ok hm, fun_ofD F, b⟩
theorem top_of (X : K.In h) (G : h.Ns mainGlobals mg) {x : Str} {st : Stmt} {ps : List Str} {fd : FuncData} (c : (He.Fa.glo x).ok K = true) (F : FunD K x x (defArgs st) (defBody st) (defScope st) [] [] (He.ga K x) fd) (b : Binds K fd ps []) : TopDef K mg x st ps :=
  ⟨_, _, He.glo_ok X G c, fun_ofD F, b⟩
end
end Fu
set_option Elab.async false
set_option linter.all false
set_option maxRecDepth 100000
set_option maxHeartbeats 4000000
namespace Fu
open PySem PySem.Spec PyProof.Rows L2 Hv
/-! # own exceptions; a law's end -/
section
variable {P : Program} {w : World} {K : PySem.W.Frag} {mg : Str → Option Value} {base : Heap} {x f g qual : Str} {C fI : Addr} {nw ini B : String} {bB : List Value} {st : Stmt} {fd : FuncData} {p1 p2 p3 p4 q1 q2 q3 q4 : Pos}
theorem kb_app {vs : List V} {us : List Value} {zs : List V} {ws : List Value} (r : Vals vs us) (rz : Vals zs ws) : Vals (vs ++ zs) (us ++ ws) := Vals.append r rz
theorem Vals.rev {vs : List V} {us : List Value} (r : Vals vs us) : Vals vs.reverse us.reverse := by
  induction r with
  | nil => exact .nil
  | cons a b ih => rw [List.reverse_cons, List.reverse_cons]; exact Vals.append ih (.cons a .nil)
theorem x1_of (X : XFacts K mg x C fI nw bB [f]) (U : Under B nw ini bB) (F : Fun K "__init__" qual st fI fd) (S : FnScope ["self", f] ["self", f] (defScope st)) (hb : defBody st = [.Assign [.Attribute (.Name "self" p1) f p2] (.Name f p3) p4]) (h1 : (f == ("__debug__" : Str)) = false) (h2 : (f == ("__classdict__" : Str)) = false)
    (b : Binds K fd ["self", f] []) (k2 : KBn K fd ["self", f] 2 [] (fun us ws => us ++ ws) (fun us ws => us ++ ws)) (k1 : KBn K fd ["self", f] 1 [f] (fun us ws => us ++ ws) (fun us ws => us ++ ws)) : X1 P w K mg base x C f :=
  { low := ⟨nw, ini, B, bB, X.low, U⟩, gC := X.gC, xf := X.xf, xc := X.xc, nof := X.nof f (by simp), init := ⟨fI, fd, X.iC, X.tI, init1_ok F S hb h1 h2 X.low U (X.nof f (by simp)), b, k2, k1⟩ }
theorem x2_of (X : XFacts K mg x C fI nw bB [f, g]) (U : Under B nw ini bB) (F : Fun K "__init__" qual st fI fd) (S : FnScope ["self", f, g] ["self", f, g] (defScope st)) (hb : defBody st = [.Assign [.Attribute (.Name "self" p1) f p2] (.Name f p3) p4, .Assign [.Attribute (.Name "self" q1) g q2] (.Name g q3) q4])
    (h1 : (f == ("__debug__" : Str)) = false) (h2 : (f == ("__classdict__" : Str)) = false) (h3 : (g == ("__debug__" : Str)) = false) (h4 : (g == ("__classdict__" : Str)) = false)
    (b : Binds K fd ["self", f, g] []) (k2 : KBn K fd ["self", f, g] 3 [] (fun us ws => us ++ ws) (fun us ws => us ++ ws)) (k1 : KBn K fd ["self", f, g] 1 [g, f] (fun us ws => us ++ ws.reverse) (fun us ws => us ++ ws.reverse)) : X2 P w K mg base x C f g :=
  { low := ⟨nw, ini, B, bB, X.low, U⟩, gC := X.gC, xf := X.xf, xc := X.xc, nof := X.nof f (by simp), nog := X.nof g (by simp), init := ⟨fI, fd, X.iC, X.tI, init2_ok F S hb h1 h2 h3 h4 X.low U (X.nof f (by simp)) (X.nof g (by simp)), b, k2, k1⟩ }
theorem xf_of {t : List (Str × List Str)} (h : ∀ p ∈ t, ∃ D, mg p.1 = some (.ref D) ∧ XfC K D ∧ ∀ f ∈ p.2, PySem.W.findIn K (.ref D) f = some none) : XfF K mg fun c => ((t.find? fun p => decide (p.1 = c)).map (·.2)).getD [] := by
  refine ⟨fun c C f m hf => ?_⟩
  have hf : f ∈ ((t.find? fun p => decide (p.1 = c)).map (·.2)).getD [] := hf
  cases q : t.find? fun p => decide (p.1 = c) with
  | none => rw [q] at hf; cases hf
  | some p =>
    have hf2 : f ∈ p.2 := by rw [q] at hf; exact hf
    have e0 := List.find?_some q
    obtain rfl := of_decide_eq_true e0
    obtain ⟨D, m2, hx, hn⟩ := h p (List.mem_of_find?_eq_some q)
    rw [m] at m2
    cases m2
    exact ⟨hx, hn f hf2⟩
end
/-! ## the law is called -/
theorem callG {P : Program} {w : World} {K : PySem.W.Frag} {mg mb : Str → Option Value} {k : Nat} {fa a : Addr} {nm x : Str} {sp : Sp} {sA : Shared} {vs : List Value} {ns : List Int}
    (KX : K.In sA.heap) (nsG : sA.heap.Ns mainGlobals mg) (nsB : sA.heap.Ns builtinsNs mb) (bltn : ∀ z : Str, z ≠ "__name__" → mb z = bootBuiltins z) (noLim : sA.heap.NoLimit) (g0 : sA.gens = #[])
    (atA : sA.heap.get? a = some { cls := .type "list", data := .seq vs.toArray }) (intA : IntsAre vs ns) (short : ns.length ≤ sizeLine) (room : Room k callerA)
    (mF : mg nm = some (.ref fa)) (F : ∀ base : Heap, K.In base → base.Ns mainGlobals mg → Cal P w K mg base k nm [x] sp)
    (prom : ∀ H : Hp, Only H → SqL K H a (ns.map V.int) → sp [.ref a] H (fun v _ => v = .bl true) fun _ _ _ => False) :
    codeAny (model P w) callerA (.call (.ref fa) ⟨[.ref a], []⟩) (fun r z => r = .ok (.ret (.bool true)) ∧ OldK sA.heap z.heap ∧ z.os = sA.os ∧ AllBare z.gens) sA := by
  have relV := vals_ints intA
  have lenN := intA.length
  have main : ∀ H : Hp, Only H → SqL K H a (ns.map V.int) → HOk P w H sA.heap → (∀ p, H p ≠ none → p = a) → (H a ≠ none → K.lookup a = none) →
      codeAny (model P w) callerA (.call (.ref fa) ⟨[.ref a], []⟩) (fun r z => r = .ok (.ret (.bool true)) ∧ OldK sA.heap z.heap ∧ z.os = sA.os ∧ AllBare z.gens) sA := by
    intro H only sq okH onA offK
    have low : ∀ {p : Addr} {o : Obj}, sA.heap.get? p = some o → H p = none → (hidT sA.heap H).get? p = some o := fun e1 e2 => hidT_get e1 e2
    have isNone : ∀ {p : Addr}, (H p ≠ none → False) → H p = none := fun {p} n => by
      cases q : H p with
      | none => rfl
      | some u => exact (n (by rw [q]; exact fun z => nomatch z)).elim
    have dictN : ∀ {p : Addr} {o : Obj} {es : Array DictEntry} {ep : Nat}, sA.heap.get? p = some o → o.data = .dict es ep → H p = none := fun {p o es ep} e1 e2 => isNone fun n => by
      obtain rfl := onA p n
      rw [atA] at e1
      cases e1
      have e3 : Data.seq vs.toArray _ = Data.dict es ep := e2
      cases e3
    have nsH : ∀ {p : Addr} {m : Str → Option Value}, sA.heap.Ns p m → (hidT sA.heap H).Ns p m := fun {p m} ⟨o, es, ep, e1, e2, r⟩ => ⟨o, es, ep, low e1 (dictN e1 e2), e2, r⟩
    have inH : K.In (hidT sA.heap H) := fun p o e => low (KX p o e) (isNone fun n => by
      obtain rfl := onA p n
      rw [offK n] at e
      cases e)
    have modH : Mod K mg (hidT sA.heap H) := ⟨inH, nsH nsG, ⟨mb, nsH nsB, bltn⟩, by
      obtain ⟨mc, l1, l2⟩ := noLim
      exact ⟨mc, nsH l1, l2⟩⟩
    have env : Env0 P w K mg (hidT sA.heap H) callerA [] sA H := ⟨rfl, modH, fun p o e => of_hidT e, Nat.le_of_eq (hidT_size _ _), trivial, fun p hp => absurd (show p ∈ ([] : List Addr) from hp) (by simp), okH, .of_eq g0⟩
    obtain ⟨f2, fd, m2, _, bnd, Fn⟩ := (F _ inH (nsH nsG)).ex
    rw [mF] at m2
    cases m2
    refine codeAny_mono (Fn.go callerA [] sA H ⟨[.ref a], []⟩ [.ref a] [.ref a] _ _ room rfl env (bnd sA [.ref a] KX rfl) (.cons rfl .nil) (prom H only sq)) fun r z hz => ?_
    match r, hz with
    | .error e, hz =>
      obtain ⟨_, _, _, _, _, _, _, _, _, _, _, _, no⟩ := hz
      exact no.elim
    | .ok .next, hz => exact (show False from hz).elim
    | .ok .brk, hz => exact (show False from hz).elim
    | .ok .cont, hz => exact (show False from hz).elim
    | .ok (.ret u), ⟨v, H2, os, bare, un, okH2, rv, q⟩ =>
      have q : v = .bl true := q
      subst q
      obtain rfl : u = Value.bool true := rv
      refine ⟨rfl, OldK.of_keep fun p o e => ?_, os, bare⟩
      cases q : H p with
      | none => exact un.keep p o e q (fun z => absurd (show p ∈ ([] : List Addr) from z) (by simp)) (by simp)
      | some u =>
        rcases only p with n | ⟨ob, xs, n⟩
        · rw [q] at n; cases n
        · obtain ⟨e1, _⟩ := okH p _ n
          obtain ⟨e2, _⟩ := okH2 p _ (un.frzs p ob _ n)
          rw [e] at e1
          cases e1
          exact e2
  cases hk : K.lookup a with
  | some o =>
    have e := KX a o hk
    rw [atA] at e
    cases e
    exact main (fun _ => none) (fun _ => .inl rfl) (.inr ⟨_, vs.toArray, _, hk, rfl, rfl, rfl, by rw [List.size_toArray, lenN]; exact short, by simpa using relV⟩) (fun p u z => nomatch (show (none : Option HO) = some u from z)) (fun p z => absurd rfl z) fun z => absurd rfl z
  | none =>
    have yes : ∀ {p : Addr}, p = a → (if p = a then some (HO.frz { cls := .type "list", data := .seq vs.toArray } (.lst (ns.map V.int))) else none) = some (HO.frz { cls := .type "list", data := .seq vs.toArray } (.lst (ns.map V.int))) := fun e => if_pos e
    have no : ∀ {p : Addr}, ¬ p = a → (if p = a then some (HO.frz { cls := .type "list", data := .seq vs.toArray } (.lst (ns.map V.int))) else none) = none := fun e => if_neg e
    refine main (fun p => if p = a then some (.frz { cls := .type "list", data := .seq vs.toArray } (.lst (ns.map V.int))) else none) (fun p => ?_) (.inl (.inr ⟨_, yes rfl⟩)) (fun p u z => ?_) (fun p z => Classical.byContradiction fun n => z (no n)) fun _ => hk
    · by_cases e : p = a
      · exact .inr ⟨_, _, yes e⟩
      · exact .inl (no e)
    · by_cases e : p = a
      · have z2 := (yes e).symm.trans z
        cases z2
        subst e
        exact ⟨atA, by rw [List.length_map]; exact short, vs, _, relV, atA⟩
      · have z2 := (no e).symm.trans z
        cases z2
theorem walkG {l : PySem.W.OpenLaw} {n k : Nat} {q : Program} {loose : List Str} {XP : (Str → Option Value) → Heap → Prop} {YP : World → Heap → Prop} {d : DefRec} {x : Str}
    (most : l.most = some n) (small : n ≤ sizeLine) (noDf : d.params.defaults = []) (room : Room k callerA)
    (F : ∀ (w : World) (mg : Str → Option Value) (fa : Addr) (h : Heap), YP w h → h.Ns mainGlobals mg → mg d.name = some (.ref fa) →
      ∃ (K : PySem.W.Frag) (sp : Sp), K.In h ∧
        (∀ (H : Hp) (a : Addr) (ns : List Int), ns.length ≤ n → Only H → SqL K H a (ns.map V.int) → sp [.ref a] H (fun v _ => v = .bl true) fun _ _ _ => False) ∧
        ∀ base : Heap, K.In base → base.Ns mainGlobals mg → Cal l.prog w K mg base k d.name [x] sp) :
    PySem.W.WalkO q loose XP YP l.row.toRowW d [] (fun f vs => PySem.call f vs) := by
  refine Att.attach_call most noDf fun w s0 sA mg mb fa o pm cd doc a vs ns G Y h1 h2 h3 m h4 h5 h6 h7 => ?_
  obtain ⟨K, sp, KX, prom, hF⟩ := F w mg fa _ Y G.T.g m
  exact callG KX G.T.g G.T.b G.T.builtins G.T.nolimit h7 h4 h5 (Nat.le_trans h6 small) room m hF fun H only sq => prom H a ns h6 only sq
end Fu
set_option Elab.async false
set_option linter.all false
set_option maxRecDepth 100000
set_option maxHeartbeats 4000000
namespace Fu
open PySem PySem.Spec PyProof.Rows L2 Hv
/-! # exceptions that are made and kept -/
section
variable {K : PySem.W.Frag} {mg : Str → Option Value} {E : L2.St → XK}
def dMk1 (c f : Str) (a : DA) : DE := fun P X ev => a (fun ts ev1 => match ts with
  | [t] => P (.ev c [(f, t)]) ev1
  | _ => False) X ev
def dMk2 (c f g : Str) (a : DA) : DE := fun P X ev => a (fun ts ev1 => match ts with
  | [t, u] => P (.ev c [(g, u), (f, t)]) ev1
  | _ => False) X ev
/-- by keywords, the second one first -/
def dMk2r (c f g : Str) (a : DA) : DE := fun P X ev => a (fun ts ev1 => match ts with
  | [u, t] => P (.ev c [(g, u), (f, t)]) ev1
  | _ => False) X ev
def dMk0 (c : Str) : DE := fun P _ ev => P (.ev c []) ev
theorem mk_at {D : En} {as : List Addr} {G H : Hp} {ev : Ev} {σ : L2.St} {c : Str} {C : Addr} {fs : List (Str × V)} {fts : List (Str × T)} {Q : VK} {P : T → Ev → Prop} (R : Rel K mg D as G ev σ H) (g : mg c = some (.ref C)) (hn : fts.map (·.1) = fs.map (·.1)) (tv : TVs K mg as G (fts.map (·.2)) (fs.map (·.2)))
    (p : P (.ev c fts) ev) (hP : PV K mg D as G σ P Q) (b n : Addr) (hb : H b = none) (hf : H n = none) (na : n ≠ b) : Q (.ref b) (upd (upd H n (exd n fs)) b (exo b C (some n))) := by
  have hb' : upd H n (exd n fs) b = none := by rw [upd_ne na.symm]; exact hb
  have R2 := R.fz (o := exd n fs) hf
  have e1 : Ext as G as (upd G n (exd n fs)) := Ext.new (R.s.sub.free hf)
  have e2 := Ext.new (as := as) (o := exo b C (some n)) (R2.s.sub.free hb')
  exact hP _ ev as _ _ _ p (R2.fz hb') (e1.trans e2) (.ev g (.inr ⟨n, upd_same, by rw [upd_ne na, upd_same]⟩) hn (tv.mono (e1.trans e2)))
theorem snd_mk1 {c f : Str} {C : Addr} (g : mg c = some (.ref C)) {t : TA} {a : DA} (h : SndA K mg E t a) : Snd K mg E (tX1 C f t) (dMk1 c f a) := fun D as G ev σ H Q P X R hf hP hX =>
  h D as G ev σ H _ _ X R hf (fun ts ev1 as1 G1 vs H1 p R1 x1 tvs => by
    match ts, vs, tvs, p with
    | [t], [v], .cons tv .nil, p => exact ⟨v, rfl, fun b n hb hn na => mk_at R1 g (fts := [(f, t)]) (fs := [(f, v)]) rfl (.cons tv .nil) p (hP.ext x1) b n hb hn na⟩) hX
theorem snd_mk2 {c f f2 : Str} {C : Addr} (g : mg c = some (.ref C)) {t : TA} {a : DA} (h : SndA K mg E t a) : Snd K mg E (tX2 C f f2 t) (dMk2 c f f2 a) := fun D as G ev σ H Q P X R hf hP hX =>
  h D as G ev σ H _ _ X R hf (fun ts ev1 as1 G1 vs H1 p R1 x1 tvs => by
    match ts, vs, tvs, p with
    | [t, u], [v, w], .cons tv (.cons tu .nil), p => exact ⟨v, w, rfl, fun b n hb hn na => mk_at R1 g (fts := [(f2, u), (f, t)]) (fs := [(f2, w), (f, v)]) rfl (.cons tu (.cons tv .nil)) p (hP.ext x1) b n hb hn na⟩) hX
theorem snd_mk2r {c f f2 : Str} {C : Addr} (g : mg c = some (.ref C)) {t : TA} {a : DA} (h : SndA K mg E t a) : Snd K mg E (tX2r C f f2 t) (dMk2r c f f2 a) := fun D as G ev σ H Q P X R hf hP hX =>
  h D as G ev σ H _ _ X R hf (fun ts ev1 as1 G1 vs H1 p R1 x1 tvs => by
    match ts, vs, tvs, p with
    | [u, t], [w, v], .cons tu (.cons tv .nil), p => exact ⟨v, w, rfl, fun b n hb hn na => mk_at R1 g (fts := [(f2, u), (f, t)]) (fs := [(f2, w), (f, v)]) rfl (.cons tu (.cons tv .nil)) p (hP.ext x1) b n hb hn na⟩) hX
theorem snd_mk0 {c : Str} {C : Addr} (g : mg c = some (.ref C)) : Snd K mg E (tX0 C) (dMk0 c) := fun D as G ev σ H Q P X R hf hP hX => fun b hb => by
  have e2 := Ext.new (as := as) (o := exo b C none) (R.s.sub.free hb)
  exact hP _ ev as _ _ _ hf (R.fz hb) e2 (.ev g (.inl ⟨rfl, upd_same⟩) rfl .nil)
/-! ## attributes, isinstance -/
def dXv (q : Str → List Str) (f : Str) (a : DE) : DE := fun P X ev => a (fun t ev1 => match t with
  | .ev c fts => f ∈ q c ∧ ∃ u, fts.lookup f = some u ∧ P u ev1
  | _ => False) X ev
theorem snd_xv {q : Str → List Str} (F : XfF K mg q) {f : Str} {ta : TE} {a : DE} (h : Snd K mg E ta a) : Snd K mg E (tXv K f ta) (dXv q f a) := fun D as G ev σ H Q P X R hf hP hX =>
  h D as G ev σ H _ _ X R hf (fun t ev1 as1 G1 v H1 p R1 x1 tv => by
    match t, p with
    | .ev c fts, ⟨hq, u, l, p⟩ =>
      cases tv with
      | ev m xv e2 b =>
        obtain ⟨h1, h2⟩ := F.ok _ _ f m hq
        rcases fs_lookup f e2 b with ⟨n1, n2⟩ | ⟨t, w, n1, n2, n3, _⟩
        · rw [n1] at l; cases l
        · rw [n1] at l
          cases l
          exact ⟨_, _, _, w, rfl, xv.le R1.s.sub, h1, h2, n2, hP _ ev1 as1 G1 w H1 p R1 x1 n3⟩) hX
def dIsV (q : Str → Tag → Option Bool) (g : Tag) (a : DE) : DE := fun P X ev => a (fun t ev1 => match t with
  | .ev c _ => ∃ b, q c g = some b ∧ P (.bl b) ev1
  | _ => False) X ev
theorem isv_ok {q : Str → Tag → Option Bool} (F : IxF K mg q) {g : Tag} {c : V} {u : Value} (hc : ClsV c u) (hg : TagV mg g u) {ta : TE} {a : DE} (h : Snd K mg E ta a) : Snd K mg E (tCB (rIsV K) (tCons ta (tCons (tC c) tNil))) (dIsV q g a) := fun D as G ev σ H Q P X R hf hP hX =>
  h D as G ev σ H _ _ X R hf (fun t ev1 as1 G1 v H1 p R1 x1 tv => by
    match t, p with
    | .ev x fts, ⟨b, hq, p⟩ =>
      cases tv with
      | ev m xv e2 tb =>
        obtain ⟨h1, h2⟩ := F.ok _ _ g u b m hg hq
        exact ⟨_, _, _, c, u, b, rfl, xv.le R1.s.sub, h1, hc, h2, hP _ ev1 as1 G1 _ H1 p R1 x1 (.bl b)⟩) hX
theorem snd_isVB {q : Str → Tag → Option Bool} (F : IxF K mg q) {n : String} {ta : TE} {a : DE} (h : Snd K mg E ta a) : Snd K mg E (tCB (rIsV K) (tCons ta (tCons (tC (.ty n)) tNil))) (dIsV q (.inl n) a) := isv_ok F (.ty n) (.ty n) h
theorem snd_isVO {q : Str → Tag → Option Bool} (F : IxF K mg q) {y : Str} {B : Addr} (m : mg y = some (.ref B)) {ta : TE} {a : DE} (h : Snd K mg E ta a) : Snd K mg E (tCB (rIsV K) (tCons ta (tCons (tC (.ref B)) tNil))) (dIsV q (.inr y) a) := isv_ok F (.own B) (.own m) h
end
end Fu
set_option Elab.async false
set_option linter.all false
set_option maxRecDepth 100000
set_option maxHeartbeats 4000000
namespace Fu
open PySem PySem.Spec PyProof.Rows L2 Hv
/-! # a dict display: its dict is laid ahead of its values -/
section
variable {K : PySem.W.Frag} {mg : Str → Option Value} {E : L2.St → XK} {D : En} {as : List Addr} {G H : Hp} {ev : Ev} {σ : L2.St} {p : Addr} {o : HO}
/-- the entry with one more object -/
def En.with (D : En) (p : Addr) (o : HO) : En := ⟨D.as, D.G, upd D.H p o⟩
theorem Rel.in (R : Rel K mg D as G ev σ H) (hp : H p = none) : Rel K mg (D.with p o) as G ev σ (upd H p o) := by
  have R2 := R.new (o := o) hp
  have hD : D.H p = none := R.c.keep p hp
  refine ⟨R2.s, ⟨?_, R.c.g, fun a h => ?_, fun a u n e => ?_, fun a h => ?_, fun a ob u e => ?_⟩, R.len, R.fr, fun i t e => ?_, R.sep⟩
  · obtain ⟨m, e, hm⟩ := R.c.more
    refine ⟨m, e, fun a ha => ?_⟩
    have : a ≠ p := fun z => (R.s.mem (a := a) (by rw [e]; exact List.mem_append_right _ ha)).1 (by rw [z]; exact hp)
    show upd D.H p o a = none
    rw [upd_ne this]
    exact hm a ha
  · have : a ≠ p := fun z => h (by rw [z]; exact R.s.sub.free hp)
    exact (R.c.gn a h).imp id fun z => by show upd D.H p o a = none; rw [upd_ne this]; exact z
  · have e : upd D.H p o a = some u := e
    by_cases z : a = p
    · subst z; rw [upd_same] at e ⊢; exact e
    · rw [upd_ne z] at e ⊢; exact R.c.fr a u n e
  · show upd D.H p o a = none
    by_cases z : a = p
    · subst z; rw [upd_same] at h; cases h
    · rw [upd_ne z] at h ⊢; exact R.c.keep a h
  · have e : upd D.H p o a = _ := e
    by_cases z : a = p
    · subst z; rw [upd_same] at e ⊢; exact e
    · rw [upd_ne z] at e ⊢; exact R.c.lk a ob u e
  · obtain ⟨a, h1, h2⟩ := R2.ow i t e
    refine ⟨a, h1, h2.ob, h2.g, h2.na, ?_⟩
    obtain ⟨b, h3, h4⟩ := R.ow i t e
    rw [h3] at h1
    cases h1
    have : a ≠ p := fun z => by obtain ⟨o', q, _⟩ := h4.ob; rw [z, hp] at q; cases q
    show upd D.H p o a = none
    rw [upd_ne this]
    exact h4.new
theorem Rel.outD (R : Rel K mg (D.with p o) as G ev σ H) (hD : D.H p = none) : Rel K mg D as G ev σ H := by
  have ne : ∀ {a : Addr}, upd D.H p o a = none → D.H a = none := fun {a} h => by
    by_cases z : a = p
    · rw [z]; exact hD
    · rwa [upd_ne z] at h
  have up : ∀ {a : Addr} {u : HO}, D.H a = some u → upd D.H p o a = some u := fun {a u} h => by rw [upd_ne (ne_of_none h hD)]; exact h
  refine ⟨R.s, ⟨?_, R.c.g, fun a h => (R.c.gn a h).imp id ne, fun a u n e => R.c.fr a u n (up e), fun a h => ne (R.c.keep a h), fun a ob u e => R.c.lk a ob u (up e)⟩, R.len, R.fr, fun i t e => ?_, R.sep⟩
  · obtain ⟨m, e, hm⟩ := R.c.more
    exact ⟨m, e, fun a ha => ne (hm a ha)⟩
  · obtain ⟨a, h1, h2⟩ := R.ow i t e
    exact ⟨a, h1, h2.ob, h2.g, h2.na, ne h2.new⟩
theorem Rel.there (R : Rel K mg (D.with p o) as G ev σ H) (hG : D.G p = none) (hn : p ∉ D.as) : H p = some o ∧ G p = none ∧ p ∉ as ∧ ¬ InOw ev σ p := by
  have e0 : (D.with p o).H p = some o := upd_same
  refine ⟨R.c.fr p o hn e0, ?_, fun h => ?_, fun ⟨i, t, h1, h2⟩ => ?_⟩
  · cases q : G p with
    | none => rfl
    | some u => exact (R.c.gn p (by rw [q]; exact fun z => nomatch z)).elim (fun z => absurd hG z) fun z => by rw [e0] at z; cases z
  · obtain ⟨m, e, hm⟩ := R.c.more
    rw [e] at h
    rcases List.mem_append.mp h with h | h
    · exact hn h
    · have := hm p h
      rw [e0] at this
      cases this
  · obtain ⟨a, h3, h4⟩ := R.ow i t h1
    rw [h3] at h2
    cases h2
    have := h4.new
    rw [e0] at this
    cases this
theorem Rel.lay (R : Rel K mg D as G ev σ H) (hG : G p = none) (hn : p ∉ as) (hD : D.H p = none) (hi : ¬ InOw ev σ p) : Rel K mg D as G ev σ (upd H p o) := by
  refine ⟨R.s.oth hG hn, ⟨R.c.more, R.c.g, R.c.gn, fun a u n e => ?_, fun a h => ?_, fun a ob u e => ?_⟩, R.len, R.fr, fun i t e => ?_, R.sep⟩
  · rw [upd_ne (ne_of_none e hD)]; exact R.c.fr a u n e
  · by_cases z : a = p
    · rw [z]; exact hD
    · rw [upd_ne z] at h; exact R.c.keep a h
  · rw [upd_ne (ne_of_none e hD)]; exact R.c.lk a ob u e
  · obtain ⟨a, h1, h2⟩ := R.ow i t e
    have : a ≠ p := fun z => hi ⟨i, t, e, by rw [← z]; exact h1⟩
    obtain ⟨o', h3, h4⟩ := h2.ob
    exact ⟨a, h1, ⟨o', by rw [upd_ne this]; exact h3, h4⟩, h2.g, h2.na, h2.new⟩
/-- the pairs of a display whose keys are texts -/
def SndKP (K : PySem.W.Frag) (mg : Str → Option Value) (E : L2.St → XK) (trs : List (TE × TE)) (ks : List Str) (f : DA) : Prop := ∀ D as G ev σ H (Q : List (V × V) → Hp → Prop) P X, Rel K mg D as G ev σ H → f P X ev →
  (∀ r ev as' G' v H', P r ev → Rel K mg D as' G' ev σ H' → Ext as G as' G' → TVs K mg as' G' r v → v.length = ks.length → Q ((ks.map V.str).zip v) H') → PX K mg E D as G σ X → tPairs trs σ H Q
theorem sndp_nil : SndKP K mg E [] [] daNil := fun D as G ev σ H Q P X R hf hP hX => hP [] ev as G [] H hf R Ext.refl .nil rfl
theorem sndp_cons {k : Str} {tv : TE} {f : DE} {g : DA} {trs : List (TE × TE)} {ks : List Str} (h : Snd K mg E tv f) (r : SndKP K mg E trs ks g) : SndKP K mg E ((tC (.str k), tv) :: trs) (k :: ks) (daCons f g) := fun D as G ev σ H Q P X R hf hP hX =>
  h D as G ev σ H _ _ X R hf (fun t ev1 as1 G1 v H1 p R1 x1 tv => r D as1 G1 ev1 σ H1 _ _ X R1 p (fun ts ev2 as2 G2 vs H2 p2 R2 x2 tvs hl => hP (t :: ts) ev2 as2 G2 (v :: vs) H2 p2 R2 (x1.trans x2) (.cons (tv.mono x2) tvs) (congrArg (· + 1) hl)) (hX.ext x1)) hX
def keyed (ks : List Str) (ts : List T) : List (Key × T) := (ks.map Sum.inr).zip ts
theorem zip_kV : ∀ (ks : List Str) (vs : List V), (ks.map V.str).zip vs = ((ks.map (Sum.inr : Str → Key)).zip vs).map fun kv => (kV kv.1, kv.2)
  | [], _ => rfl
  | _ :: _, [] => rfl
  | _ :: ks, _ :: vs => congrArg (_ :: ·) (zip_kV ks vs)
theorem keyed_tk {as : List Addr} {G : Hp} : ∀ {ks : List Str} {ts : List T} {vs : List V}, TVs K mg as G ts vs → vs.length = ks.length → TKs K mg as G (keyed ks ts) ((ks.map Sum.inr).zip vs)
  | [], _, _, _, _ => ⟨rfl, .nil⟩
  | _ :: _, _, _, .nil, h => by cases h
  | _ :: ks, _, _, .cons a b, h => by
    obtain ⟨n, c⟩ := keyed_tk (ks := ks) b (Nat.succ.inj h)
    exact ⟨congrArg (_ :: ·) n, .cons a c⟩
def dDisp (ks : List Str) (f : DA) : DE := fun P X ev => ks.length ≤ 15 ∧ f (fun ts ev1 => P (.dct (mergeT [] (keyed ks ts))) ev1) X ev
theorem snd_dispN {trs : List (TE × TE)} {ks : List Str} {f : DA} (h : SndKP K mg E trs ks f) : SndN K mg E (tDisp trs) (dDisp ks f) := fun D as G ev σ H Q P X R ⟨hl, hf⟩ hP hX p hp => by
  have hD : D.H p = none := R.c.keep p hp
  have hG : D.G p = none := by
    cases q : D.G p with
    | none => rfl
    | some u => exact absurd (R.c.g _ _ q) (by rw [R.s.sub.free hp]; exact fun z => nomatch z)
  have hn : p ∉ D.as := fun z => (R.s.mem (a := p) (by obtain ⟨m, e, _⟩ := R.c.more; rw [e]; exact List.mem_append_left _ z)).1 hp
  refine h (D.with p (.dK [])) as G ev σ _ _ _ X (R.in hp) hf (fun ts ev2 as2 G2 vs H2 p2 R2 x2 tvs hv => ?_) fun e ev' as' G' c oa H' a b y d => hX e ev' as' G' c oa H' a (b.outD hD) y d
  obtain ⟨h1, h2, h3, h4⟩ := R2.there hG hn
  have R3 := R2.outD hD
  obtain ⟨n3, t3⟩ := merge_tk (keyed_tk tvs hv) (⟨rfl, .nil⟩ : TKs K mg as2 G2 [] [])
  refine ⟨h1, ((ks.map Sum.inr).zip vs), zip_kV ks vs, ?_, ?_⟩
  · rw [List.length_zip, List.length_map]; omega
  · exact hP _ ev2 as2 G2 p _ p2 (R3.lay h2 h3 hD h4) x2 ⟨⟨_, upd_same, .dct n3 t3⟩, h2, h3, hD⟩ h4
end
end Fu
set_option Elab.async false
set_option linter.all false
set_option maxRecDepth 100000
set_option maxHeartbeats 4000000
namespace Fu
open PySem PySem.Spec PyProof.Rows L2 Hv
/-! # several except clauses, each with a name or without -/
/-- a clause: whom it catches, the slot of its name, its suite -/
abbrev Cla : Type := Value × Option Nat × (Addr → Value → Option Addr → TS)
def slotC (σ : L2.St) (a : Addr) : Option Nat → L2.St
  | none => σ
  | some i => σ.set i (some (.ref a))
def freeC (σ : L2.St) : Option Nat → L2.St
  | none => σ
  | some i => σ.set i none
def endsC (D : Ends) (oi : Option Nat) : Ends := { nx := fun σ H => D.nx (freeC σ oi) H, rt := D.rt, bk := fun σ H => D.bk (freeC σ oi) H, ct := fun σ H => D.ct (freeC σ oi) H }
def wCla (K : PySem.W.Frag) (Wout : WX) (D : Ends) : List Cla → WX
  | [] => Wout
  | p :: r => fun cls d σ H => ∃ b, PySem.W.exmOne K cls p.1 = some b ∧ (b = true → ∀ a, H a = none → p.2.2 a cls d (endsC D p.2.1) (slotC σ a p.2.1) H) ∧ (b = false → wCla K Wout D r cls d σ H)
/-- the name of a clause is a local of the frame, at its slot -/
def NameC (X : Cx) (n : Option Str) (oi : Option Nat) : Prop := match n, oi with
  | none, none => True
  | some x, some i => X.N[i]? = some x ∧ X.env.kindOf x = some .local
  | _, _ => False
abbrev SuiC (X : Cx) (b : List Stmt) (ts : Addr → Value → Option Addr → TS) : Prop := ∀ (a : Addr) (oe : Obj) (cls : Value) (d : Option Addr) (pn : List (Addr × Obj)), Zc cls d oe → (∃ vs, oe.data = .fields vs) → PSs (X.suite a ((a, oe) :: pn)) b (ts a cls d)
inductive ClaOk (X : Cx) : List ExceptHandler → List Cla → Prop
  | nil : ClaOk X [] []
  | cons {x : Str} {n : Option Str} {oi : Option Nat} {c : Value} {ts : Addr → Value → Option Addr → TS} {b1 : Stmt} {b : List Stmt} {p1 p2 : Pos} {hds : List ExceptHandler} {l : List Cla} (nm : Names X x c) (nc : NameC X n oi) (sui : SuiC X (b1 :: b) ts) (r : ClaOk X hds l) :
      ClaOk X (.ExceptHandler (some (.Name x p1)) n (b1 :: b) p2 :: hds) ((c, oi, ts) :: l)
section
variable {X : Cx} {body : List Stmt} {hd : ExceptHandler} {hds : List ExceptHandler} {l : List Cla} {pos : Pos} {tb : WX → TS} {Wout : WX}
theorem ps_clauses (stk : X.stack = X.env :: X.outer) (fr : X.env.frame = some X.env.locals) (hN : X.N.Nodup) (tk : Takes X Wout)
    (hb : ∀ (W : WX) (pn : List (Addr × Obj)) (xe : Value → Shared → Prop), Takes (X.tr pn xe) W → PassesOwn (model X.prog X.w) X.A X.env xe → PSs (X.tr pn xe) body (tb W))
    (hh : ClaOk X (hd :: hds) l) : PS X (.Try body (hd :: hds) [] [] pos) (fun D σ H => tb (wCla X.K Wout D l) D σ H) := by
  refine ⟨fun pins s σ H D I h => ?_⟩
  have ok := I.ok
  have frs2 : X.A.frames = some (X.env :: X.outer) := ok.frames.trans (congrArg some stk)
  refine wpAny_Try_except (wpAny_mono ((hb (wCla X.K Wout D l) (X.pn ++ pins) (fun e s1 => wpAny (model X.prog X.w) X.A (noteFrame e X.env) (fun _ s2 => wpAny (model X.prog X.w) X.A (setFlight e none) (fun _ s3 =>
    wpAny (model X.prog X.w) X.A (handleBy e X.env (hd :: hds)) (SP X pins D) X.xe s3) X.xe s2) X.xe s1) (fun u s' y => ?caught) PassesOwn.looking).run [] s σ H D (I.toTry _) h) (fun f s1 z => ?ended) fun e s1 z => z)
  case caught =>
    obtain ⟨a, B, sI, pins2, σ2, H2, cls, d, rfl, J0, nb, up, sky, na, os, ag, w⟩ := y
    have J : Inv X pins σ2 H2 sI := J0.ofTry ok
    show wpAny (model X.prog X.w) X.A (noteFrame (.ref a) X.env) _ _ _
    refine Sky.land Zc.steady frs2 fr (by rw [← stk]; exact sky : Sky B (X.env :: X.outer) a (Zc cls d) X.env.locals s'.heap) fun h3 fl3 up3 => ?_
    have J3 : Inv X pins σ2 H2 { s' with heap := h3 } := J.landed nb fl3.1 (up.trans up3) os ag
    obtain ⟨oe3, vs3, he3, hz3, hd3⟩ := fl3.there
    have away : a ∉ frs (X.env :: X.outer) := fun hm => by
      obtain ⟨_, ob, eb, no⟩ := Heap.FunFrames.mem fl3.2.2.1 hm
      cases he3.symm.trans eb
      exact no _ hd3
    have nL : a ≠ X.env.locals := fun z => away (List.mem_filterMap.mpr ⟨X.env, .head _, by rw [fr, z]⟩)
    have nF : a ∉ X.fs := fun hm => by
      obtain ⟨e, he, q⟩ := List.mem_filterMap.mp hm
      exact away (List.mem_filterMap.mpr ⟨e, .tail _ he, q⟩)
    have S3 := J3.suite he3 hd3 na nL nF
    have all : ∀ {hs : List ExceptHandler} {k : List Cla}, ClaOk X hs k → wCla X.K Wout D k cls d σ2 H2 → wpAny (model X.prog X.w) X.A (handleBy (.ref a) X.env hs) (SP X pins D) X.xe { s' with heap := h3 } := by
      intro hs k ho
      induction ho with
      | nil =>
        intro w
        refine wpAny_handleBy_nil ?_
        obtain ⟨k1, k2, k3, oe, vs, T1, oT, ts1, he, hz, hdd, h1, hr⟩ := id fl3
        unfold PySem.passOn
        refine wpAny_bind (wpAny_field he hdd h1 ?_)
        rw [if_neg (by simp : ¬ ((Value.ref T1 == Value.none) = true))]
        have out : wpAny (model X.prog X.w) X.A (setFlight (.ref a) X.env.frame) (fun _ s4 => wpAny (model X.prog X.w) X.A (throw (.ref a) : Sem Flow) (SP X pins D) X.xe s4) X.xe { s' with heap := h3 } := by
          rw [fr]
          exact HandSPX.setFlight_upZ fl3 fun h4 hh4 up4 => wpAny_throw (tk _ _ ⟨a, B, sI, pins, σ2, H2, cls, d, rfl, J, nb, (up.trans up3).trans up4, .inr (.inr (by rw [stk]; exact hh4)), na, os, ag, w⟩)
        first
          | exact wpAny_bind (wpAny_pure (wpAny_bind out))
          | exact wpAny_bind out
      | @cons x n oi c ts b1 b p1 p2 hs2 k2 nm nc sui r ih =>
        intro w
        obtain ⟨t, e1, yes, no⟩ := w
        refine wpAny_handleBy_cons (codeAny_handlers_test ?_) (by intro q; cases q)
        have LT : PySem.W.Looks (model X.prog X.w) h3 (typeOf (.ref a)) cls := fun A Q E s k q => wpAny_typeOf_ref (k _ _ he3) (by rw [hz3.1]; exact q)
        have LM := PySem.W.exm_one (M := model X.prog X.w) J3.kIn LT e1
        have named : ∀ {Q E : Value → Shared → Prop}, Q c { s' with heap := h3 } → wpAny (model X.prog X.w) (X.A.mark (some (.ref a))) (eval (.Name x p1) X.env) Q E { s' with heap := h3 } := fun {Q E} q => by
          obtain ⟨g1, g2, g3 | ⟨g3, g4, g5⟩⟩ := nm
          · exact ld_glob (X := X.suite a ((a, oe3) :: (X.pn ++ pins))) S3 g1 g3 q g2
          · exact ld_blt (X := X.suite a ((a, oe3) :: (X.pn ++ pins))) S3 g1 g3 g4 q g5 g2
        refine named (LM.here ?_)
        cases t with
        | false => exact ih (no rfl)
        | true =>
          have y := yes rfl a na
          match n, oi, nc with
          | none, none, _ =>
            refine codeAny_handlers_suite (HandSPX.lands_againZ fl3 fun h4 fl4 up4 => ?_)
            have J4 : Inv X pins σ2 H2 { s' with heap := h4 } := J.landed nb fl4.1 ((up.trans up3).trans up4) os ag
            obtain ⟨oe4, vs4, he4, hz4, hd4⟩ := fl4.there
            refine wpAny_mono ((sui a oe4 cls d (X.pn ++ pins) hz4 ⟨_, hd4⟩).run [] _ _ H2 _ (J4.suite he4 hd4 na nL nF) y) (fun f s6 z => ?_) fun _ _ z => False.elim z
            cases f with
            | ret u => obtain ⟨v6, σ6, H6, S6, r6, q6⟩ := z; exact ⟨_, _, _, S6.unsuite ok, r6, q6⟩
            | next => obtain ⟨σ6, H6, S6, q6⟩ := z; exact ⟨_, _, S6.unsuite ok, q6⟩
            | brk => obtain ⟨σ6, H6, S6, q6⟩ := z; exact ⟨_, _, S6.unsuite ok, q6⟩
            | cont => obtain ⟨σ6, H6, S6, q6⟩ := z; exact ⟨_, _, S6.unsuite ok, q6⟩
          | some nn, some i, ⟨hi, hl⟩ =>
            refine codeAny_handlers_suite_as (HandSPX.lands_againZ fl3 fun h4 fl4 up4 => ?_)
            have J4 : Inv X pins σ2 H2 { s' with heap := h4 } := J.landed nb fl4.1 ((up.trans up3).trans up4) os ag
            obtain ⟨oe4, vs4, he4, hz4, hd4⟩ := fl4.there
            refine store_ok (X := X.suite a ((a, oe4) :: (X.pn ++ pins))) (v := .ref a) (J4.suite he4 hd4 na nL nF) hN hi (.inl hl) rfl (fun s5 S5 => ?_) (.inr hl)
            refine wpAny_mono ((sui a oe4 cls d (X.pn ++ pins) hz4 ⟨_, hd4⟩).run [] s5 _ H2 _ S5 y) (fun f s6 z => ?_) fun _ _ z => False.elim z
            have gone : ∀ {σ6 : L2.St} {H6 : Hp} {Q : Shared → Prop}, Inv (X.suite a ((a, oe4) :: (X.pn ++ pins))) [] σ6 H6 s6 → (∀ s7, Inv X pins (σ6.set i none) H6 s7 → Q s7) →
                wpAny (model X.prog X.w) X.A (do bindName X.env nn .none; unbindBehindTheSuite X.env nn p2) (fun _ s7 => Q s7) X.xe s6 := fun {σ6 H6 Q} S6 hq => gone_ok (S6.unsuite ok) hN hi hl hq
            cases f with
            | ret u => obtain ⟨v6, σ6, H6, S6, r6, q6⟩ := z; exact gone S6 fun s7 J7 => ⟨_, _, _, J7, r6, q6⟩
            | next => obtain ⟨σ6, H6, S6, q6⟩ := z; exact gone S6 fun s7 J7 => ⟨_, _, J7, q6⟩
            | brk => obtain ⟨σ6, H6, S6, q6⟩ := z; exact gone S6 fun s7 J7 => ⟨_, _, J7, q6⟩
            | cont => obtain ⟨σ6, H6, S6, q6⟩ := z; exact gone S6 fun s7 J7 => ⟨_, _, J7, q6⟩
    exact all hh w
  case ended =>
    cases f with
    | next => obtain ⟨σ2, H2, J2, q⟩ := z; exact wpAny_execs_nil ⟨σ2, H2, J2.ofTry ok, q⟩
    | brk => obtain ⟨σ2, H2, J2, q⟩ := z; exact ⟨σ2, H2, J2.ofTry ok, q⟩
    | cont => obtain ⟨σ2, H2, J2, q⟩ := z; exact ⟨σ2, H2, J2.ofTry ok, q⟩
    | ret u => obtain ⟨v, σ2, H2, J2, r, q⟩ := z; exact ⟨v, σ2, H2, J2.ofTry ok, r, q⟩
end
end Fu
set_option Elab.async false
set_option linter.all false
set_option maxRecDepth 100000
set_option maxHeartbeats 4000000
namespace Fu
open PySem PySem.Spec PyProof.Rows L2 Hv
/-! # several except clauses, over trees -/
section
variable {K : PySem.W.Frag} {mg : Str → Option Value}
abbrev DCl := PEnds → Exn → Ev → Prop
def clNil : DCl := fun P x ev => P.ex x ev
/-- a clause with a name, in slot i -/
def clAs (q : Str → Option Bool) (i : Nat) (su : Addr → Option Addr → Str → DS) (r : DCl) : DCl := fun P x ev => match q x.cls with
  | some true => ∀ a d, su a d x.cls { nx := fun ev2 => P.nx { ev2 with env := ev2.env.set i .no }, rt := P.rt, bk := fun ev2 => P.bk { ev2 with env := ev2.env.set i .no }, ct := fun ev2 => P.ct { ev2 with env := ev2.env.set i .no }, ex := X0 } { ev with env := ev.env.set i (.fr (.exc a d x.cls x.fs)) }
  | some false => r P x ev
  | none => False
/-- .. without -/
def clO (q : Str → Option Bool) (su : DS) (r : DCl) : DCl := fun P x ev => match q x.cls with
  | some true => su { P with ex := X0 } ev
  | some false => r P x ev
  | none => False
def dTryC (body : DS) (g : DCl) : DS := fun P ev => body { P with ex := fun x ev1 => g P x ev1 } ev
def SndCl (K : PySem.W.Frag) (mg : Str → Option Value) (Wout : WX) (l : List Cla) (g : DCl) : Prop := ∀ D as G ev σ H Dn P x cls oa, Rel K mg D as G ev σ H → g P x ev → XV K mg G as x cls oa → Fin' K mg (WE Wout) D as G P Dn → wCla K Wout Dn l cls oa σ H
theorem sndcl_nil {Wout : WX} : SndCl K mg Wout [] clNil := fun D as G ev σ H Dn P x cls oa R h xv F => F.ex x ev as G σ cls oa H h R Ext.refl xv
theorem sndcl_as {Wout : WX} {c : Value} {q : Str → Option Bool} (Hd : HdF K mg c q) {i : Nat} {ts : Addr → Value → Option Addr → TS} {su : Addr → Option Addr → Str → DS} {l : List Cla} {g : DCl} (hs : ∀ a d x C, mg x = some (.ref C) → SndS K mg E0 (ts a (.ref C) d) (su a d x)) (r : SndCl K mg Wout l g) :
    SndCl K mg Wout ((c, some i, ts) :: l) (clAs q i su g) := fun D as G ev σ H Dn P x cls oa R h xv F => by
  obtain ⟨C, m, ec, hx⟩ := id xv
  unfold clAs at h
  cases e : q x.cls with
  | none => simp only [e] at h
  | some b =>
    simp only [e] at h
    refine ⟨b, by rw [ec]; exact Hd.ok _ _ _ m e, fun hb a ha => ?_, fun hb => ?_⟩
    · subst hb ec
      exact hs a oa x.cls C m D as G _ _ H _ _ (R.setF (xv.tv a)) (h a oa) ⟨fun ev2 as2 G2 σ2 H2 q R2 x2 => F.nx _ as2 G2 _ H2 q (R2.setNo i none) x2, fun ev2 as2 G2 σ2 H2 q R2 x2 => F.bk _ as2 G2 _ H2 q (R2.setNo i none) x2, fun ev2 as2 G2 σ2 H2 q R2 x2 => F.ct _ as2 G2 _ H2 q (R2.setNo i none) x2, fun r ev2 as2 G2 σ2 v H2 q R2 x2 rv => F.rt r ev2 as2 G2 σ2 v H2 q R2 x2 rv, fun _ _ _ _ _ _ _ _ z => z.elim⟩
    · subst hb
      exact r D as G ev σ H Dn P x cls oa R h xv F
theorem sndcl_o {Wout : WX} {c : Value} {q : Str → Option Bool} (Hd : HdF K mg c q) {ts : Addr → Value → Option Addr → TS} {su : DS} {l : List Cla} {g : DCl} (hs : ∀ a d C, SndS K mg E0 (ts a C d) su) (r : SndCl K mg Wout l g) :
    SndCl K mg Wout ((c, none, ts) :: l) (clO q su g) := fun D as G ev σ H Dn P x cls oa R h xv F => by
  obtain ⟨C, m, ec, hx⟩ := id xv
  unfold clO at h
  cases e : q x.cls with
  | none => simp only [e] at h
  | some b =>
    simp only [e] at h
    refine ⟨b, by rw [ec]; exact Hd.ok _ _ _ m e, fun hb a ha => ?_, fun hb => ?_⟩
    · subst hb
      exact hs a oa cls D as G _ _ H _ _ R h ⟨fun ev2 as2 G2 σ2 H2 q R2 x2 => F.nx _ as2 G2 _ H2 q R2 x2, fun ev2 as2 G2 σ2 H2 q R2 x2 => F.bk _ as2 G2 _ H2 q R2 x2, fun ev2 as2 G2 σ2 H2 q R2 x2 => F.ct _ as2 G2 _ H2 q R2 x2, fun r ev2 as2 G2 σ2 v H2 q R2 x2 rv => F.rt r ev2 as2 G2 σ2 v H2 q R2 x2 rv, fun _ _ _ _ _ _ _ _ z => z.elim⟩
    · subst hb
      exact r D as G ev σ H Dn P x cls oa R h xv F
theorem snd_tryC {tb : WX → TS} {fb : DS} {l : List Cla} {g : DCl} {Wout : WX} (hb : ∀ W, SndS K mg (WE W) (tb W) fb) (hc : SndCl K mg Wout l g) : SndS K mg (WE Wout) (fun D σ H => tb (wCla K Wout D l) D σ H) (dTryC fb g) := fun D as G ev σ H Dn P R h F =>
  hb _ D as G ev σ H Dn _ R h ⟨F.nx, F.bk, F.ct, F.rt, fun x ev1 as' G' σ' cls oa H' p R' x1 xv =>
    hc D as' G' ev1 σ' H' Dn P x cls oa R' p xv ⟨fun ev2 as2 G2 σ2 H2 q R2 x2 => F.nx _ as2 G2 _ H2 q R2 (x1.trans x2), fun ev2 as2 G2 σ2 H2 q R2 x2 => F.bk _ as2 G2 _ H2 q R2 (x1.trans x2), fun ev2 as2 G2 σ2 H2 q R2 x2 => F.ct _ as2 G2 _ H2 q R2 (x1.trans x2), fun r ev2 as2 G2 σ2 v H2 q R2 x2 rv => F.rt r ev2 as2 G2 σ2 v H2 q R2 (x1.trans x2) rv, fun x2 ev2 as2 G2 σ2 c2 oa2 H2 q R2 e2 xv2 => F.ex x2 ev2 as2 G2 σ2 c2 oa2 H2 q R2 (x1.trans e2) xv2⟩⟩
/-! ## raised without attributes -/
def dRaise0 (c : Str) : DS := fun P ev => P.ex ⟨c, []⟩ ev
end
end Fu
set_option Elab.async false
set_option linter.all false
set_option maxRecDepth 100000
set_option maxHeartbeats 4000000
namespace Fu
open PySem PySem.Spec PyProof.Rows L2 Hv
/-! # an exception without attributes is raised: raise C() -/
section
variable {X : Cx} {pins : List (Addr × Obj)} {σ : L2.St} {H1 : Hp} {a C : Addr}
/-- the exception lies in the heap, and what we know does without it -/
theorem mk_bare {hp hp2 h2 : Heap} {g1 g2 : Array GenState} {d1 d2 : Drawn} {t1 t2 : Nat} {os1 os2 : OsState} (I1 : Inv X pins σ H1 ⟨hp, g1, d1, t1, os1⟩) (ha : hp.objs.size ≤ a) (k : ∀ b o, hp.get? b = some o → hp2.get? b = some o)
    (un : Un (frs X.stack) [] (upd H1 a (exo a C none)) (upd H1 a (exo a C none)) hp2 h2) (hok : HOk X.prog X.w (upd H1 a (exo a C none)) h2) (ho : os2 = os1) (hb : AllBare g2) :
    ∃ (t0 : Addr) (G : Heap), Inv X pins σ H1 ⟨G, g2, d2, t2, os2⟩ ∧ (∀ b o, G.get? b = some o → h2.get? b = some o) ∧ G.get? a = none ∧
      h2.get? a = some ({ cls := .ref C, dict := none, data := .fields #[.ref t0, .none, .none, .none, .bool false, .none] } : Obj) ∧ H1 a = none := by
  have ea : upd H1 a (exo a C none) a = some (exo a C none) := upd_same
  obtain ⟨t0, at0⟩ := exo_at hok ea
  have hn : H1 a = none := I1.hok.fresh ha
  obtain ⟨G, s1, s2⟩ := restrict h2 fun b => decide (b ≠ a)
  have sm : ∀ b, b ≠ a → G.get? b = h2.get? b := fun b hb => s1 b (decide_eq_true hb)
  have none' : G.get? a = none := s2 a (by simp)
  have old : ∀ {b : Addr} {o : Obj}, hp.get? b = some o → b ≠ a := fun {b o} z => Nat.ne_of_lt (Nat.lt_of_lt_of_le (Heap.lt_size z) ha)
  have un' : ∀ {b : Addr}, b ≠ a → H1 b = none → upd H1 a (exo a C none) b = none := fun {b} hb n => (upd_ne hb).trans n
  have U : Un (frs X.stack) [] H1 H1 hp G :=
    ⟨fun b o z n f x => (sm b (old z)).trans (un.keep b o (k b o z) (un' (old z) n) f x), fun b o z n f x => by rw [sm b (old z)]; exact un.slot b o (k b o z) (un' (old z) n) f x, fun b o z n x => n,
     fun b o z x => by rw [sm b (old z)]; exact un.there b o (k b o z) x, fun b xs z => z, fun b o v z => z, fun b ps z => ⟨#[], by simpa using z⟩⟩
  have ok2 : HOk X.prog X.w H1 G := fun b o z => by
    have hba : b ≠ a := ne_of_none z hn
    have z2 : upd H1 a (exo a C none) b = some o := (upd_ne hba).trans z
    have noa : ∀ {c : Addr}, upd H1 a (exo a C none) c = some (.own b) → c ≠ a := fun {c} hc => at_ne ea hc exo_own
    refine (hok b o z2).stay (fun c v hc y => ?_) (fun c hc => ?_) fun c xs hc => ?_
    · have hca : c ≠ a := hc.elim (fun e => e ▸ hba) noa
      exact (sm c hca).trans y
    · rwa [upd_ne (noa hc)] at hc
    · rwa [upd_ne (at_ne ea hc exo_tup)] at hc
  refine ⟨t0, G, I1.call' (ch := []) ho U ok2 hb (fun b z => absurd z (by simp)), fun b o z => ?_, none', at0, hn⟩
  by_cases hba : b = a
  · rw [hba, none'] at z; cases z
  · exact (sm b hba).symm.trans z
def tR0 (C : Addr) : L2.St → Hp → XK → Prop := fun _ H Q => Q (.ref C) none H
theorem pmk_x0d {x : Str} {p pos : Pos} (T : Hv.X0 X.prog X.w X.K X.mg X.base x C) (hr : Room 2 X.A) (hg : Gl X x) (hdb : (x == ("__debug__" : Str)) = false := by decide) : PMk X (.Call (.Name x p) [] [] pos) (tR0 C) := by
  obtain ⟨nw, ini, B, bB, T1, U⟩ := T.low
  obtain ⟨fI, fd, iC, tI, G, b, _, _⟩ := T.init.ex
  intro pins s σ H Q I h
  obtain ⟨nm, q, N, bs, bm, sn, sub, ab, col, dd, k0, k1, k2, k3, k5, hC, hbm⟩ := T1.cls
  refine wpAny_Call_Name_kw (ld_glob I hg T.gC (PySem.W.callWith_K0 I.kIn T1.kC ?_) hdb)
  show wpAny (model X.prog X.w) X.A (call (.ref C) []) _ _ _
  obtain ⟨hp, g, dr, tk, os⟩ := s
  have up1 : hp.objs.size ≤ hp.objs.size + 1 := Nat.le_succ _
  have grown : ∀ b o, hp.get? b = some o → ((hp.push (PySem.W.kdv_tup [])).push (PySem.HandSPX.excO C hp.objs.size)).get? b = some o := fun b o z => Heap.get?_push_of_some _ (Heap.get?_push_of_some _ z)
  have there : ((hp.push (PySem.W.kdv_tup [])).push (PySem.HandSPX.excO C hp.objs.size)).get? (hp.objs.size + 1) = some (PySem.HandSPX.excO C hp.objs.size) := by heap_get
  have J := I.laid (t' := tk) (a := hp.objs.size + 1) (o := exo (hp.objs.size + 1) C none) (h' := (hp.push (PySem.W.kdv_tup [])).push (PySem.HandSPX.excO C hp.objs.size)) grown up1 (exo_ok there)
  have rr : Vals [V.ref (hp.objs.size + 1)] [Value.ref (hp.objs.size + 1)] := .cons rfl .nil
  have want : spE0 C [V.ref (hp.objs.size + 1)] (upd H (hp.objs.size + 1) (exo (hp.objs.size + 1) C none)) (fun v H3 => v = .non ∧ H3 = upd H (hp.objs.size + 1) (exo (hp.objs.size + 1) C none)) (fun _ _ _ => False) := ⟨_, rfl, rfl, rfl⟩
  have bt := b _ [Value.ref (hp.objs.size + 1)] J.kIn rfl
  rw [List.append_nil] at bt
  refine wpAny_call (PySem.HandSPX.call_own U.ex (fun Y => owns_has bB Y bm hbm) (I.kIn _ _ hC) (PySem.W.looks_findIn I.kIn iC) (fun self => PySem.W.bind_fn I.kIn self tI) (by decide)
    (codeAny_mono (G.run _ X.stack _ _ ⟨[Value.ref (hp.objs.size + 1)], []⟩ [Value.ref (hp.objs.size + 1)] _ _ (fun _ _ _ => False) (hr.make C [] []) (J.env0.make C [] []) bt rr want) fun res s2 back => ?_))
  match res, back with
  | .error er, ⟨_, _, _, _, _, _, _, _, _, _, _, _, no⟩ => exact no.elim
  | .ok (.ret u), ⟨v, H2, os2, bare2, un2, hok2, rv, ev, e2⟩ =>
    subst ev e2
    obtain ⟨h2, g2, d2, t2, os'⟩ := s2
    obtain ⟨t0, hG, J2, kG, ge, hoe, na⟩ := mk_bare (d2 := d2) (t2 := t2) I up1 grown un2 hok2 os2 bare2
    exact ⟨rv, ⟨_, _, _, ⟨hG, g2, d2, t2, os'⟩, _, .ref C, none, rfl, J2, kG, ge, hoe, ⟨rfl, rfl⟩, rfl, rfl, na, rfl, bare2, raises_own T1.exC T1.tyC, h⟩⟩
end
section
variable {K : PySem.W.Frag} {mg : Str → Option Value}
theorem snd_raise0 {W : WX} {c : Str} {C : Addr} (g : mg c = some (.ref C)) : SndS K mg (WE W) (fun _ σ H => tR0 C σ H fun cls d H' => W cls d σ H') (dRaise0 c) := fun D as G ev σ H Dn P R hf F =>
  F.ex _ ev as G σ _ _ H hf R Ext.refl ⟨C, g, rfl, .inl ⟨rfl, rfl⟩⟩
end
end Fu
set_option Elab.async false
set_option linter.all false
set_option maxRecDepth 100000
set_option maxHeartbeats 4000000
namespace Fu
open PySem PySem.Spec PyProof.Rows L2 Hv
/-! # isinstance with a tuple of classes -/
section
variable {K : PySem.W.Frag} {mg : Str → Option Value} {E : L2.St → XK}
/-- the written classes, one by one -/
inductive TagsA (mg : Str → Option Value) : List Tag → List V → List Value → TA → Prop
  | nil : TagsA mg [] [] [] tNil
  | cons {g : Tag} {c : V} {u : Value} {gs : List Tag} {cs : List V} {us : List Value} {t : TA} : ClsV c u → TagV mg g u → TagsA mg gs cs us t → TagsA mg (g :: gs) (c :: cs) (u :: us) (tCons (tC c) t)
theorem TagsA.run {gs : List Tag} {cs : List V} {us : List Value} {t : TA} (h : TagsA mg gs cs us t) : ∀ {σ : L2.St} {H : Hp} {Q : List V → Hp → Prop}, Q cs H → t σ H Q := by
  induction h with
  | nil => exact fun q => q
  | cons _ _ _ ih => exact fun q => ih q
theorem TagsA.cls {gs : List Tag} {cs : List V} {us : List Value} {t : TA} (h : TagsA mg gs cs us t) : Paired ClsV cs us := by
  induction h with
  | nil => exact .nil
  | cons a _ _ ih => exact .cons a ih
theorem TagsA.len {gs : List Tag} {cs : List V} {us : List Value} {t : TA} (h : TagsA mg gs cs us t) : cs.length = gs.length := by
  induction h with
  | nil => rfl
  | cons a _ _ ih => exact congrArg (· + 1) ih
def anyQ (q : Tag → Option Bool) : List Tag → Option Bool
  | [] => some false
  | g :: r => match q g with
    | some true => some true
    | some false => anyQ q r
    | none => none
theorem TagsA.any {q : Tag → Option Bool} {w : Value} {gs : List Tag} {cs : List V} {us : List Value} {t : TA} (h : TagsA mg gs cs us t) (k : ∀ g u b, TagV mg g u → q g = some b → PySem.W.kitOne K w u = some b) : ∀ {b : Bool}, anyQ q gs = some b → PySem.W.kitAny K w us = some b := by
  induction h with
  | nil => exact fun e => e
  | @cons g c u gs cs us t a m r ih =>
    intro b e
    unfold anyQ at e
    unfold PySem.W.kitAny
    cases z : q g with
    | none => rw [z] at e; cases e
    | some v =>
      rw [z] at e
      rw [k g u v m z]
      cases v with
      | true => exact e
      | false => exact ih e
def dIsiT (q : Tag → Tag → Option Bool) (gs : List Tag) (f : DO) : DE := fun P X ev => f (fun x ev1 => vw ev1 x fun t => ∃ g b, tagOf t = some g ∧ anyQ (q g) gs = some b ∧ P (.bl b) ev1) X ev
theorem snd_isiT {q : Tag → Tag → Option Bool} (I : IsF K mg q) {gs : List Tag} {cs : List V} {us : List Value} {tcs : TA} (A : TagsA mg gs cs us tcs) (hl : gs.length ≤ 100) {t : TE} {f : DO} (h : SndO K mg E t f) : Snd K mg E (tCB (rIsiT K) (tCons t (tCons (tTup tcs) tNil))) (dIsiT q gs f) := fun D as G ev σ H Q P X R hf hP hX =>
  h D as G ev σ H _ _ X R hf (fun x ev1 as1 G1 v H1 p R1 x1 tv => A.run ⟨by rw [A.len, sizeLine_eq]; omega, fun T hT => by
    have xx : Ext as1 G1 as1 (upd G1 T (.tup cs)) := Ext.new (R1.s.sub.free hT)
    have R2 := R1.fz (o := .tup cs) hT
    obtain ⟨t, _, h1, g, b, e1, e2, p2⟩ := vw_ok R2 (OV.mono tv xx) p
    obtain ⟨u, h3, h4⟩ := h1.ty R2.s.sub e1
    exact ⟨v, T, cs, u, us, b, rfl, upd_same, A.cls, h4, A.any (fun g' u' b' m z => I.ok g g' u u' b' h3 m z) e2, hP _ ev1 as1 _ _ _ p2 R2 (x1.trans xx) (.bl b)⟩⟩) hX
/-! ## of a caught exception -/
def rIsXT (K : PySem.W.Frag) (a : Addr) (cls : Value) (d : Option Addr) : List V → Hp → VK → Prop := fun xs H Q => ∃ (D tp : Addr) (cs : List V) (us : List Value) (b : Bool), xs = [.ref a, .ref tp] ∧ cls = .ref D ∧ ExcC K D ∧ H tp = some (.tup cs) ∧ Paired ClsV cs us ∧ (d = none ∨ ∃ n fs, d = some n ∧ H n = some (.xd fs)) ∧ PySem.W.kitAny K (.ref D) us = some b ∧ Q (.bl b) H
theorem call_isXT {X : Cx} {a : Addr} {oe : Obj} {cls : Value} {d : Option Addr} {pn : List (Addr × Obj)} (hz : Zc cls d oe) (hf : ∃ vs, oe.data = .fields vs) : CallR (X.suite a ((a, oe) :: pn)) (.builtin "isinstance") (rIsXT X.K a cls d) := by
  intro pins s σ H xs us Q I r h
  obtain ⟨D, tp, cs, ws, b, rfl, rfl, C, hT, k, hd, e, q⟩ := h
  obtain ⟨u1, u2, rfl, r1, r2⟩ := vals2 r
  cases r1
  cases (show u2 = Value.ref tp from r2)
  obtain ⟨at0, _⟩ := I.pin (a, oe) (List.mem_append.mpr (.inl List.mem_cons_self))
  obtain ⟨vs, hv⟩ := hf
  obtain ⟨_, its, rv, o, h1, h2, n, h3⟩ := (show ObjOk X.prog X.w H s.heap tp (.tup cs) from I.hok tp _ hT)
  have e3 := ClsV.all k rv
  subst e3
  obtain ⟨oc, od, dt, sl⟩ := o
  simp only at h2 h3
  subst h2 h3
  have nc : PySem.W.notCls oe = true := by unfold PySem.W.notCls; rw [hv] <;> rfl
  rcases hd with rfl | ⟨n, fs, rfl, hn⟩
  · have J : PySem.W.InstAt s.heap a oe D none := ⟨at0, hz.1, nc, by rw [hz.2]; trivial⟩
    exact PySem.W.kia_tup (PySem.W.handS_kitx_exc C.hg C.hk C.hs C.hd C.ha C.hn C.ht C.hm) I.kIn J h1 e (fun z => nomatch z) fun tk => ⟨.bl b, H, I.kept (t' := tk) fun _ _ z => z, rfl, q⟩
  · obtain ⟨mA, hns, _⟩ : ObjOk X.prog X.w H s.heap n (.xd fs) := I.hok n _ hn
    obtain ⟨od, ho, _⟩ := lookIn_ns hns
    have J : PySem.W.InstAt s.heap a oe D (some od) := ⟨at0, hz.1, nc, by rw [hz.2]; exact ho⟩
    exact PySem.W.kia_tup (kit_caught C) I.kIn J h1 e (fun z => nomatch z) fun tk => ⟨.bl b, H, I.kept (t' := tk) fun _ _ z => z, rfl, q⟩
def dIsXT (q : Str → Tag → Option Bool) (a : Addr) (d : Option Addr) (x : Str) (gs : List Tag) (i : Nat) : DE := fun P _ ev => match ev.env[i]? with
  | some (.fr (.exc a' d' x' fts)) => a' = a ∧ d' = d ∧ x' = x ∧ ∃ b, anyQ (q x) gs = some b ∧ P (.bl b) ev
  | _ => False
theorem snd_isXT {q : Str → Tag → Option Bool} (F : IxF K mg q) {a : Addr} {d : Option Addr} {x : Str} {gs : List Tag} {cs : List V} {us : List Value} {tcs : TA} (A : TagsA mg gs cs us tcs) (ne : gs ≠ []) (hl : gs.length ≤ 100) {i : Nat} {C : Addr} (m : mg x = some (.ref C)) :
    Snd K mg E (tCB (rIsXT K a (.ref C) d) (tCons (tVar i) (tCons (tTup tcs) tNil))) (dIsXT q a d x gs i) := fun D as G ev σ H Q P X R h hP hX => by
  unfold dIsXT at h
  split at h
  · rename_i a' d' x' fts e
    obtain ⟨rfl, rfl, rfl, b, eb, p⟩ := h
    obtain ⟨v, e1, tv⟩ := R.fr i _ e
    have ex : ExcC K C := by
      cases A with
      | nil => exact absurd rfl ne
      | @cons g c u gs cs us t hc hg r =>
        unfold anyQ at eb
        cases z : q x' g with
        | none => rw [z] at eb; cases eb
        | some w => exact (F.ok x' C g u w m hg z).1
    have va : v = .ref a' := by cases tv <;> rfl
    subst va
    refine ⟨_, e1, A.run ⟨by rw [A.len, sizeLine_eq]; omega, fun T hT => ?_⟩⟩
    have xx : Ext as G as (upd G T (.tup cs)) := Ext.new (R.s.sub.free hT)
    refine ⟨C, T, cs, us, b, rfl, rfl, ex, upd_same, A.cls, ?_, A.any (fun g u b' hg z => (F.ok x' C g u b' m hg z).2) eb, hP _ ev as _ _ _ p (R.fz hT) xx (.bl b)⟩
    cases tv with
    | exc m' => exact .inl rfl
    | excD m' g' e2 b' => exact .inr ⟨_, _, rfl, by rw [upd_ne (ne_of_none (R.s.sub _ _ g') hT)]; exact R.s.sub _ _ g'⟩
  · exact h.elim
end
end Fu
namespace Fu
open PySem PySem.Spec PyProof.Rows L2 Hv
theorem isiTC {X : Cx} {K : PySem.W.Frag} (hK : X.K = K) : CallR X (.builtin "isinstance") (rIsiT K) := by subst hK; exact call_isiT
theorem isxT {X : Cx} {K : PySem.W.Frag} {a : Addr} {oe : Obj} {cls : Value} {d : Option Addr} {pn : List (Addr × Obj)} (hK : X.K = K) (hz : Zc cls d oe) (hf : ∃ vs, oe.data = .fields vs) : CallR (X.suite a ((a, oe) :: pn)) (.builtin "isinstance") (rIsXT K a cls d) := by subst hK; exact call_isXT hz hf
end Fu
set_option Elab.async false
set_option linter.all false
set_option maxRecDepth 100000
set_option maxHeartbeats 4000000
namespace Fu
open PySem PySem.Spec PyProof.Rows L2 Hv
/-! # the head's questions for many classes of exceptions -/
section
variable {P : Program} {w : World} {K : PySem.W.Frag} {h : Heap} {mg : Str → Option Value} {base : Heap} {x qual : Str} {C fI : Addr} {nw ini B : String} {bB : List Value} {st : Stmt} {fd : FuncData} {p1 : Pos}
theorem x0_of (X : XFacts K mg x C fI nw bB []) (U : Under B nw ini bB) (F : Fun K "__init__" qual st fI fd) (S : FnScope ["self"] ["self"] (defScope st)) (hb : defBody st = [.Pass p1])
    (b : Binds K fd ["self"] []) (k2 : KBn K fd ["self"] 1 [] (fun us ws => us ++ ws) (fun us ws => us ++ ws)) : Hv.X0 P w K mg base x C :=
  { low := ⟨nw, ini, B, bB, X.low, U⟩, gC := X.gC, xf := X.xf, xc := X.xc, init := ⟨fI, fd, X.iC, X.tI, init0_ok F S hb, b, k2, k2⟩ }
theorem ixG_ok (X : K.In h) (G : h.Ns mainGlobals mg) {an : List (Str × List Tag)} {dom : List Tag} (c : ixG K an dom = true) (ex : ∀ p ∈ an, ExcC K (He.ga K p.1)) :
    IxF K mg fun x c => if dom.any (fun d => decide (d = c)) = true then ((an.find? fun p => decide (p.1 = x)).map (·.2)).map fun l => l.any fun d => decide (d = c) else none := by
  refine ⟨fun x D g u b hx hg hq => ?_⟩
  have hq : (if dom.any (fun d => decide (d = g)) = true then ((an.find? fun p => decide (p.1 = x)).map (·.2)).map fun l => l.any fun d => decide (d = g) else none) = some b := hq
  split at hq
  · rename_i hd
    obtain ⟨l, hl, rfl⟩ := Option.map_eq_some_iff.mp hq
    obtain ⟨p, hp, rfl⟩ := Option.map_eq_some_iff.mp hl
    have e0 := List.find?_some hp
    obtain rfl := of_decide_eq_true e0
    have hm := List.mem_of_find?_eq_some hp
    obtain ⟨d, hd1, hd2⟩ := List.any_eq_true.mp hd
    obtain rfl := of_decide_eq_true hd2
    obtain ⟨c1, c2⟩ := band (List.all_eq_true.mp c p hm)
    obtain ⟨c3, c4⟩ := band (List.all_eq_true.mp c2 d hd1)
    rw [tagV_u X G c3 hg, ga_of X G c1 hx]
    exact ⟨ex p hm, of_decide_eq_true c4⟩
  · cases hq
/-- a def with a promise that asks the impossible -/
theorem cal_none {ps : List Str} {k n : Nat} (T : TopDef K mg x st ps) : Cal P w K mg base k x ps (spF K mg n fun _ _ _ _ => False) := by
  obtain ⟨f, fd, m, F, b⟩ := T.ex
  refine ⟨f, fd, m, F.kp, b, ⟨fun vs H Q E h => ?_, fun A up s H ar us vs Q E _ _ _ _ _ h => ?_⟩⟩
  · obtain ⟨_, _, _, _, _, _, _, _, _, no, _⟩ := h
    exact no.elim
  · obtain ⟨_, _, _, _, _, _, _, _, _, no, _⟩ := h
    exact no.elim
end
end Fu
set_option Elab.async false
set_option linter.all false
set_option maxRecDepth 100000
set_option maxHeartbeats 4000000
namespace Fu
open PySem PySem.Spec PyProof.Rows L2 Hv
/-! # repr of nested data, dicts of one text key among them -/
def oneD (k : Key) (r : List (Key × T)) (o : Option PyData) : Option PyData := match k, r, o with
  | .inr x, [], some d => some (.dict [(.str x, d)])
  | _, _, _ => none
theorem oneD_inv {k : Key} {r : List (Key × T)} {o : Option PyData} {d : PyData} (h : oneD k r o = some d) : ∃ x e, k = .inr x ∧ r = [] ∧ o = some e ∧ d = .dict [(.str x, e)] := by
  unfold oneD at h
  split at h
  · cases h; exact ⟨_, _, rfl, rfl, rfl, rfl⟩
  · cases h
mutual
def toQ : T → Option PyData
  | .non => some .none
  | .bl b => some (.bool b)
  | .int i => some (.int i)
  | .str x => some (.str x)
  | .lst ts => (toQs ts).map PyData.list
  | .tup ts => (toQs ts).map PyData.tuple
  | .dct kts => toQd kts
  | _ => none
def toQs : List T → Option (List PyData)
  | [] => some []
  | t :: ts => match toQ t, toQs ts with
    | some d, some ds => some (d :: ds)
    | _, _ => none
def toQd : List (Key × T) → Option PyData
  | [] => some (.dict [])
  | (k, t) :: r => oneD k r (toQ t)
end
section
variable {K : PySem.W.Frag} {mg : Str → Option Value} {D : En} {E : L2.St → XK} {as : List Addr} {G H : Hp} {σ : L2.St} {X : DX} {ev : Ev}
mutual
theorem TV.dq : ∀ {t : T} {v : V} {d : PyData}, TV K mg as G t v → toQ t = some d → Dq K G v d
  | _, _, _, .non, e => by cases e; exact .non
  | _, _, _, .bl b, e => by cases e; exact .bl b
  | _, _, _, .int i, e => by cases e; exact .int i
  | _, _, _, .str x, e => by cases e; exact .str x
  | _, _, _, .lst h a, e => by
    rw [toQ, Option.map_eq_some_iff] at e
    obtain ⟨ds, e, rfl⟩ := e
    exact .lst (SqL.of h) (TVs.dq a e)
  | _, _, _, .tup h a, e => by
    rw [toQ, Option.map_eq_some_iff] at e
    obtain ⟨ds, e, rfl⟩ := e
    exact .tup h (TVs.dq a e)
  | _, _, _, .scr _, e => by simp [toQ] at e
  | .dct kts, _, _, .dct (kvs := kvs) h n a, e => by
    rw [toQ] at e
    match kts, kvs, n, a, h, e with
    | [], [], _, _, h, e => cases e; exact .dnil (.inr ⟨_, h⟩)
    | (k, t) :: r, (k2, v) :: r2, n, .cons a b, h, e =>
      rw [toQd] at e
      obtain ⟨x, d, rfl, rfl, e1, rfl⟩ := oneD_inv e
      simp only [List.map_cons, List.map_nil, List.cons.injEq] at n
      obtain ⟨n1, n2⟩ := n
      obtain rfl := List.map_eq_nil_iff.mp n2.symm
      subst n1
      exact .done (.inr ⟨_, h⟩) (TV.dq a e1)
  | _, _, _, .ins _ _ _ _ _, e => by simp [toQ] at e
  | _, _, _, .glob _, e => by simp [toQ] at e
  | _, _, _, .cell _, e => by simp [toQ] at e
  | _, _, _, .exc _, e => by simp [toQ] at e
  | _, _, _, .excD _ _ _ _, e => by simp [toQ] at e
  | _, _, _, .ev _ _ _ _, e => by simp [toQ] at e
  | _, _, _, .ty _, e => by simp [toQ] at e
theorem TVs.dq : ∀ {ts : List T} {vs : List V} {ds : List PyData}, TVs K mg as G ts vs → toQs ts = some ds → DqAll K G vs ds
  | _, _, _, .nil, e => by cases e; exact .nil
  | _, _, _, .cons a b, e => by
    rw [toQs] at e
    split at e
    · rename_i d ds' h1 h2
      cases e
      exact .cons (TV.dq a h1) (TVs.dq b h2)
    · cases e
end
theorem HV.dq (s : Same G H) {t : T} {v : V} {d : PyData} (h : HV K mg as G H t v) (e : toQ t = some d) : Dq K H v d := by
  cases t with
  | non => cases e; cases (show v = .non from h); exact .non
  | bl b => cases e; cases (show v = .bl b from h); exact .bl b
  | int i => cases e; cases (show v = .int i from h); exact .int i
  | str x => cases e; cases (show v = .str x from h); exact .str x
  | lst ts =>
    obtain ⟨a, vs, rfl, h1, h2⟩ := h
    rw [toQ, Option.map_eq_some_iff] at e
    obtain ⟨ds, e, rfl⟩ := e
    exact .lst (SqL.of h1) (DqAll.le s (TVs.dq h2 e))
  | tup ts =>
    obtain ⟨a, vs, rfl, h1, h2⟩ := h
    rw [toQ, Option.map_eq_some_iff] at e
    obtain ⟨ds, e, rfl⟩ := e
    exact .tup (SqT.le s h1) (DqAll.le s (TVs.dq h2 e))
  | dct kts =>
    obtain ⟨a, kvs, rfl, h, n, b⟩ := h
    rw [toQ] at e
    match kts, kvs, n, b, h, e with
    | [], [], _, _, h, e => cases e; exact .dnil h
    | (k, t) :: r, (k2, v) :: r2, n, .cons a b, h, e =>
      rw [toQd] at e
      obtain ⟨x, d, rfl, rfl, e1, rfl⟩ := oneD_inv e
      simp only [List.map_cons, List.map_nil, List.cons.injEq] at n
      obtain ⟨n1, n2⟩ := n
      obtain rfl := List.map_eq_nil_iff.mp n2.symm
      subst n1
      exact .done h (Dq.le s (TV.dq a e1))
  | _ => simp [toQ] at e
def gReprQ : GL := fun ts P => match ts with
  | [t] => ∃ d, toQ t = some d ∧ d.showable = true ∧ d.depth ≤ 60 ∧ d.shown.length ≤ sizeLine ∧ P (.str d.shown)
  | _ => False
theorem cs_reprQ : CalS K mg (reprQR K) gReprQ := fun D as G ev σ H ts vs P Q R hv h q => by
  match ts, h with
  | [t], h =>
    obtain ⟨d, e, h1, h2, h3, h⟩ := h
    obtain ⟨v, rfl, h4⟩ := hvs1 hv
    exact ⟨v, d, rfl, h4.dq R.s.sub e, h1, h2, h3, q _ _ G H h R Ext.refl (.str _)⟩
/-! ## trees of such data, of bounded depth and size -/
def Tx (n w : Nat) (t : T) : Prop := ∃ d, toQ t = some d ∧ Fine n w d
theorem Tx.le {n w n' w' : Nat} {t : T} (h : Tx n w t) (a : n ≤ n') (b : w ≤ w') : Tx n' w' t := h.imp fun _ h => ⟨h.1, h.2.le a b⟩
theorem tx_list {n w : Nat} : ∀ {ts : List T}, (∀ t ∈ ts, Tx n w t) → ∃ ds, toQs ts = some ds ∧ ds.length = ts.length ∧ ∀ d ∈ ds, Fine n w d
  | [], _ => ⟨[], rfl, rfl, fun _ h => nomatch h⟩
  | t :: ts, h => by
    obtain ⟨ds, e, l, f⟩ := tx_list (ts := ts) fun u hu => h u (.tail _ hu)
    obtain ⟨d, e1, f1⟩ := h t (.head _)
    exact ⟨d :: ds, by rw [toQs, e1, e], congrArg (· + 1) l, List.forall_mem_cons.mpr ⟨f1, f⟩⟩
theorem Tx.lst {n w : Nat} {ts : List T} (h : ∀ t ∈ ts, Tx n w t) : Tx (n + 1) (ts.length * (w + 1)) (.lst ts) := by
  obtain ⟨ds, e, l, f⟩ := tx_list h
  exact ⟨_, by rw [toQ, e]; rfl, l ▸ Fine.list f⟩
theorem Tx.tup {n w : Nat} {ts : List T} (h : ∀ t ∈ ts, Tx n w t) : Tx (n + 1) (ts.length * (w + 1)) (.tup ts) := by
  obtain ⟨ds, e, l, f⟩ := tx_list h
  exact ⟨_, by rw [toQ, e]; rfl, l ▸ Fine.tuple f⟩
theorem Tx.dct {n w : Nat} {t : T} {k : Str} (hk : (PyData.str k).leavesShort 64 = true) (kw : k.cps.size ≤ 8) (h : Tx n w t) : Tx (n + 1) (w + 12) (.dct [(.inr k, t)]) := by
  obtain ⟨d, e, f⟩ := h
  exact ⟨_, by rw [toQ, toQd, e]; rfl, Fine.dict hk kw f⟩
theorem tx_int {i : Int} (h : i.natAbs < 10 ^ 40) : Tx 0 140 (.int i) := ⟨_, rfl, fine_int h⟩
/-- the text of a tree -/
theorem repr_tx {n w : Nat} {t : T} (h : Tx n w t) (hn : n ≤ 60) (hw : w ≤ 100000) : ∃ d, toQ t = some d ∧ d.showable = true ∧ d.depth ≤ 60 ∧ d.shown.length ≤ sizeLine :=
  h.imp fun _ ⟨e, f⟩ => ⟨e, f.sb, Nat.le_trans f.dp hn, f.size hw⟩
end
/-! ## the head's question of the table of modules -/
theorem smB_ok {K : PySem.W.Frag} (h : smB K = true) : Sm K := by
  unfold smB at h
  split at h
  · rename_i o e; exact ⟨o, e, of_decide_eq_true h⟩
  · cases h
end Fu
set_option Elab.async false
set_option linter.all false
set_option maxRecDepth 100000
set_option maxHeartbeats 4000000
namespace Fu
open PySem PySem.Spec PyProof.Rows L2 Hv
/-! # integers in a list, lists of truths -/
theorem toPs_maps {α : Type} (f : α → T) (g : α → PyData) (h : ∀ x, toP (f x) = some (g x)) : ∀ xs : List α, toPs (xs.map f) = some (xs.map g)
  | [] => by simp [toPs]
  | x :: xs => by rw [List.map_cons, toPs, h x, toPs_maps f g h xs]; rfl
theorem inL_ints (ns : List Int) (w : Int) : inL (ns.map T.int) (.int w) = some (decide (w ∈ ns)) := by
  unfold inL
  rw [toPs_maps T.int PyData.int (fun i => by simp [toP]) ns, show toP (.int w) = some (.int w) by simp [toP]]
  have h0 : (PyData.int w).depth ≤ 60 := by simp [PyData.depth]
  simp only [if_pos h0]
  congr 1
  unfold hasD
  rw [List.any_map, Bool.eq_iff_iff]
  simp [PyData.eqv]
theorem inL_int2 (i j w : Int) : inL [.int i, .int j] (.int w) = some (decide (w = i ∨ w = j)) := by
  have := inL_ints [i, j] w
  simpa using this
theorem depth_bools : ∀ ds : List Bool, PyData.depthAll (ds.map PyData.bool) = 0
  | [] => rfl
  | d :: ds => by simp [PyData.depthAll, depth_bools ds, PyData.depth]
/-- truths are equal to themselves -/
theorem eqT_bls (bs : List Bool) : eqT (.lst (bs.map T.bl)) (.lst (bs.map T.bl)) = some true :=
  eqT_refl (d := .list (bs.map PyData.bool)) (by rw [toP, toPs_maps T.bl PyData.bool (fun i => by simp [toP]) bs]; rfl) (by simp [PyData.depth, depth_bools])
theorem depth_strs : ∀ ds : List Str, PyData.depthAll (ds.map PyData.str) = 0
  | [] => rfl
  | d :: ds => by simp [PyData.depthAll, depth_strs ds, PyData.depth]
theorem eqT_strs (bs : List Str) : eqT (.lst (bs.map T.str)) (.lst (bs.map T.str)) = some true :=
  eqT_refl (d := .list (bs.map PyData.str)) (by rw [toP, toPs_maps T.str PyData.str (fun i => by simp [toP]) bs]; rfl) (by simp [PyData.depth, depth_strs])
theorem rangeT_mem {n : Nat} {t : T} (h : t ∈ rangeT 0 n) : ∃ i : Nat, i < n ∧ t = .int i := by
  obtain ⟨i, hi, rfl⟩ := List.mem_map.mp h
  exact ⟨i, List.mem_range.mp hi, by rw [Int.zero_add]⟩
end Fu
set_option Elab.async false
set_option linter.all false
set_option maxRecDepth 100000
set_option maxHeartbeats 4000000
namespace Fu
open PySem PySem.Spec PyProof.Rows L2 Hv
/-! # def __init__(self, *v) -/
section
variable {P : Program} {w : World} {K : PySem.W.Frag} {mg : Str → Option Value} {base : Heap} {k : Nat}
/-- what is left over is a new tuple -/
structure FnS (P : Program) (w : World) (K : PySem.W.Frag) (mg : Str → Option Value) (base : Heap) (k : Nat) (f : Addr) (sp : Sp) : Prop where
  go : ∀ (A : Around) (up : List Env) (s : Shared) (H : Hp) (u : Value) (v : V) (us : List Value) (vs : List V) (Q : VK) (E : XK), Room k A → A.guards = some [] → Env0 P w K mg base A up s H → RelV v u → Vals vs us → vs.length ≤ sizeLine →
    (∀ p, H p = none → sp [v, .ref p] (upd H p (.tup vs)) Q E) → codeAny (model P w) A (.call (.ref f) ⟨u :: us, []⟩) (CR (L2.CX P w) up P w H s Q E) s
theorem Fun.okS {x qual pv : Str} {st : Stmt} {N : List Str} {f : Addr} {fd : FuncData} {sp : Sp} (F : Fun K x qual st f fd) (S : FnScope N ["self", pv] (defScope st))
    (bd : ∀ (kV doc pm : Value) (an : Option Addr) (cdv ct u : Value) (us : List Value), bindArgs (PySem.W.fnOf x qual (defArgs st) (defBody st) (defScope st) .none kV doc pm an cdv ct) ⟨u :: us, []⟩ = (newTuple us >>= fun t => pure [(("self" : Str), u), (pv, t)]))
    (hb : ∀ (cd : Value) (A : Around) (up : List Env) (s : Shared) (H : Hp) (vs : List V) (Q : VK) (E : XK), vs.length = 2 → Room k (A.deeper (envOfC qual (defScope st) s.heap.objs.size f cd)) → (A.deeper (envOfC qual (defScope st) s.heap.objs.size f cd)).guards = some [] →
      sp vs H Q E → ∃ t, PSs (cxOf (L2.CX P w) P w K mg base N qual (defScope st) f cd A up s H E) (defBody st) t ∧ t { nx := fun _ G => Q .non G, rt := Q } (L2.start N vs) H) :
    FnS P w K mg base (k + 1) f sp := by
  obtain ⟨oc, od, kV, doc, pm, an, cd, ct, osl, rfl, lk, code⟩ := F.ex
  refine ⟨fun A up s H u v us vs Q E hr hG e0 ru rv hz hs => ?_⟩
  have hn : H s.heap.objs.size = none := e0.hok.fresh (Nat.le_refl _)
  have hz2 : us.length ≤ sizeLine := by rw [← rv.length]; exact hz
  have inK : K.In s.heap := e0.mod.kin.keeps fun b o q => (e0.bs b o q).1
  have new : ObjOk P w (upd H s.heap.objs.size (.tup vs)) (s.heap.push ({ cls := .type "tuple", data := .seq us.toArray } : Obj)) s.heap.objs.size (.tup vs) := ⟨hz, us, rv, ⟨_, Heap.get?_push_size _ rfl, rfl, _, rfl⟩⟩
  have un := StX.un_laid (fs := frs up) (s := s) (o := ({ cls := .type "tuple", data := .seq us.toArray } : Obj)) (u := .tup vs) hn
  have e2 := StX.env0_laid e0 new
  have hs2 := hs _ hn
  have nolim : (s.heap.push ({ cls := .type "tuple", data := .seq us.toArray } : Obj)).NoLimit := e0.mod.nolimit.keeps fun b o q => (e2.bs b o q).1
  have hx : ∀ (e : Value) (s' : Shared), L2.CX P w up (upd H s.heap.objs.size (.tup vs)) { s with heap := s.heap.push ({ cls := .type "tuple", data := .seq us.toArray } : Obj) } E e s' → L2.CX P w up H s E e s' := fun e s' => StX.cxUp up s H _ _ E e s' un (fun b o q => Heap.get?_push_of_some _ q) rfl
  have rv2 : Vals [v, V.ref s.heap.objs.size] [u, Value.ref s.heap.objs.size] := .cons ru (.cons rfl .nil)
  refine codeAny_call_function hr.depth (inK _ _ lk) rfl S.co S.gen rfl (PySem.W.codeRec_of inK code) ?_
  rw [bd]
  refine wpAny_bind (wpAny_newTuple (wpAny_pure ?_) hz2)
  have kinds : ∀ z ∈ (["self", pv] : List Str).zip [u, Value.ref s.heap.objs.size], (defScope st).names.lookup z.1 = some .local ∨ ((defScope st).names.lookup z.1 = some .cell ∧ ((cellsFrom ((s.heap.push ({ cls := .type "tuple", data := .seq us.toArray } : Obj)).objs.size + 1) (defScope st).names []).lookup z.1).isSome = true) := by
    rintro ⟨n, v⟩ hz
    exact (S.par n (List.of_mem_zip hz).1).imp id fun q => ⟨q, PySem.W.cellsFrom_some _ _ _ (.inl q)⟩
  refine wpAny_newFunctionEnv_cells (s := { s with heap := s.heap.push ({ cls := .type "tuple", data := .seq us.toArray } : Obj) }) S.kind kinds fun env he s1 C => ?_
  subst he
  obtain ⟨t, ht, hq⟩ := hb cd A up { s with heap := s.heap.push ({ cls := .type "tuple", data := .seq us.toArray } : Obj) } (upd H s.heap.objs.size (.tup vs)) [v, V.ref s.heap.objs.size] Q E rfl (hr.deeper _) (guards_deeper hG) hs2
  have J := inv_start (CX := L2.CX P w) (P := P) (w := w) (mg := mg) (base := base) (qual := qual) (f := f) (cd := cd) (E := E) S hr.hd e2 (show [v, V.ref s.heap.objs.size].length = (["self", pv] : List Str).length from rfl) rv2 C
  refine ⟨nolim.keeps C.toInCall.keep, codeAny_func (wpAny_mono (ht.run [] s1 (L2.start N _) _ _ J hq) (fun fl s2 h2 => ?_) fun e s' hs => wpAny_mono hs (fun _ s'' z => hx e s'' z) fun e' s'' z => hx e' s'' z)⟩
  have fin : ∀ {σ' : L2.St} {H' : Hp} {v' : V} {u' : Value} {s' : Shared}, Inv (cxOf (L2.CX P w) P w K mg base N qual (defScope st) f cd A up { s with heap := s.heap.push ({ cls := .type "tuple", data := .seq us.toArray } : Obj) } (upd H s.heap.objs.size (.tup vs)) E) [] σ' H' s' → RelV v' u' → Q v' H' → CE up P w H s Q u' s' :=
    fun {σ' H' v' u' s'} J rv' q => ⟨v', H', J.os.trans rfl, J.bare, un.trans J.base, J.hok, rv', q⟩
  cases fl with
  | ret u => exact (by obtain ⟨v, σ2, G, J2, r2, q2⟩ := h2; exact fin J2 r2 q2)
  | next => exact (by obtain ⟨σ2, G, J2, q2⟩ := h2; exact fin (v' := V.non) (u' := Value.none) J2 rfl q2)
  | brk => exact (by obtain ⟨σ2, G, J2, q2⟩ := h2; exact q2.elim)
  | cont => exact (by obtain ⟨σ2, G, J2, q2⟩ := h2; exact q2.elim)
/-- the class named c is made by an __init__(self, *v) -/
structure MCalS (P : Program) (w : World) (K : PySem.W.Frag) (mg : Str → Option Value) (base : Heap) (k : Nat) (c : Str) (sp : Sp) : Prop where
  ex : ∃ (C f : Addr), mg c = some (.ref C) ∧ Cls K C ∧ Meth K C "__init__" f ∧ FnS P w K mg base k f sp
structure MetDefS (K : PySem.W.Frag) (mg : Str → Option Value) (c qual pv : Str) (st : Stmt) : Prop where
  ex : ∃ (C f : Addr) (fd : FuncData), mg c = some (.ref C) ∧ Cls K C ∧ Meth K C "__init__" f ∧ Fun K "__init__" qual st f fd
  bd : ∀ (kV doc pm : Value) (an : Option Addr) (cdv ct u : Value) (us : List Value), bindArgs (PySem.W.fnOf "__init__" qual (defArgs st) (defBody st) (defScope st) .none kV doc pm an cdv ct) ⟨u :: us, []⟩ = (newTuple us >>= fun t => pure [(("self" : Str), u), (pv, t)])
theorem met_okS {c qual pv : Str} {st : Stmt} {N : List Str} {f : DS} (D : MetDefS K mg c qual pv st) (S : FnScope N ["self", pv] (defScope st))
    (hb : ∀ (fa : Addr) (cd : Value) (A : Around) (up : List Env) (s : Shared) (H : Hp) (Ek : XK), Room k (A.deeper (envOfC qual (defScope st) s.heap.objs.size fa cd)) → (A.deeper (envOfC qual (defScope st) s.heap.objs.size fa cd)).guards = some [] →
      ∃ t, PSs (cxOf (L2.CX P w) P w K mg base N qual (defScope st) fa cd A up s H Ek) (defBody st) t ∧ SndS K mg (fun _ => Ek) t f) :
    MCalS P w K mg base (k + 1) c (spF K mg 2 (bodyS N.length f)) := by
  obtain ⟨C, fa, fd, g, cl, me, F⟩ := D.ex
  refine ⟨C, fa, g, cl, me, Fun.okS F S D.bd fun cd A up s H vs Q E l hr hG h => ?_⟩
  obtain ⟨t, h1, h2⟩ := hb fa cd A up s H E hr hG
  exact ⟨t, h1, body_ok h2 h⟩
theorem MCalS.impF {c : Str} {S S' : SpecT} (D : MCalS P w K mg base k c (spF K mg 2 S)) (h : ∀ ts st P X, S' ts st P X → S ts st P X) : MCalS P w K mg base k c (spF K mg 2 S') := by
  obtain ⟨C, f, g, cl, me, F⟩ := D.ex
  exact ⟨C, f, g, cl, me, ⟨fun A up s H u v us vs Q E hr hG e0 ru rv hz hs => F.go A up s H u v us vs Q E hr hG e0 ru rv hz fun p hp => spF.imp h (hs p hp)⟩⟩
end
def tMkS (mg : Str → Option Value) (c : Str) (sp : Sp) (E : L2.St → XK) (t : TA) : TE := fun σ H Q => t σ H fun vs H1 => vs.length ≤ sizeLine ∧ ∃ C, mg c = some (.ref C) ∧ ∀ x dx p, H1 x = none → H1 dx = none → dx ≠ x → upd (upd H1 dx (.own x)) x (.ins C dx []) p = none →
  sp [.ref x, .ref p] (upd (upd (upd H1 dx (.own x)) x (.ins C dx [])) p (.tup vs)) (fun v H2 => v = .non ∧ Q (.ref x) H2) (E σ)
section
variable {X : Cx} {k : Nat} {x : Str} {sp : Sp} {E : L2.St → XK} {p pos : Pos} {e : Expr} {es : List Expr} {t : TA}
theorem runMkS {C f : Addr} {pins : List (Addr × Obj)} {σ : L2.St} {H : Hp} {s : Shared} {Q : VK} {us : List Value} {vs : List V} {Ek : XK} (M : Mk X.K C f) (F : FnS X.prog X.w X.K X.mg X.base k f sp) (hr : Room (k + 1) X.A) (hG : X.A.guards = some [])
    (hx : PassesAt (L2.CX X.prog X.w) X σ Ek) (I : Inv X pins σ H s) (r : Vals vs us) (hz : vs.length ≤ sizeLine)
    (h : ∀ x dx p, H x = none → H dx = none → dx ≠ x → upd (upd H dx (.own x)) x (.ins C dx []) p = none → sp [.ref x, .ref p] (upd (upd (upd H dx (.own x)) x (.ins C dx [])) p (.tup vs)) (fun v H2 => v = .non ∧ Q (.ref x) H2) Ek) :
    wpAny (model X.prog X.w) X.A (call (.ref C) us []) (EP X pins σ Q) X.xe s := by
  have want := fun p => h (s.heap.objs.size + 1) s.heap.objs.size p (I.hok.fresh (Nat.le_succ _)) (I.hok.fresh (Nat.le_refl _)) (Nat.ne_of_lt (Nat.lt_succ_self _))
  have J := Inv.made (C := C) I
  have hG2 : (X.A.under (.builtin "type.__call__" ⟨.ref C :: us, []⟩)).guards = some [] := hG
  refine wpAny_call (make_map (f := f) I.kIn M.makes M.init (beq_iff_eq.mp M.fn) (codeAny_mono (F.go _ X.stack _ _ (Value.ref (s.heap.objs.size + 1)) (V.ref (s.heap.objs.size + 1)) us vs _ Ek (hr.make C us []) hG2
    (J.env0.make C us []) rfl r hz want) fun res s2 back => ?_))
  match res, back with
  | .error e, back => exact hx pins _ _ e s2 J back
  | .ok (.ret u), back =>
    obtain ⟨v, H', I3, rv, ev, q3⟩ := J.after back
    subst ev
    exact ⟨rv, ⟨V.ref (s.heap.objs.size + 1), H', I3, rfl, q3⟩⟩
/-- C(e, ..) -/
theorem pe_mkS {mg : Str → Option Value} (hmg : X.mg = mg) (M : MkC X.K X.mg x) (D : MCalS X.prog X.w X.K X.mg X.base k x sp) (hr : Room (k + 1) X.A) (hG : X.A.guards = some []) (hg : Gl X x) (hx : ∀ σ, PassesAt (L2.CX X.prog X.w) X σ (E σ)) (ha : PA X (e :: es) t)
    (hdb : (x == ("__debug__" : Str)) = false := by decide) (hs : starEach (e :: es) X.env = (false, eval e X.env) :: starEach es X.env := by rfl) (hp : (backTo pos (starEach es X.env)).any (·.1) = false := by rfl) :
    PE X (.Call (.Name x p) (e :: es) [] pos) (tMkS mg x sp E t) := by
  subst hmg
  obtain ⟨C, f, g, cl, me, F⟩ := D.ex
  obtain ⟨C', g', mk, kp⟩ := M.ex
  rw [g] at g'
  cases g'
  refine ⟨fun pins s σ H Q I h => wpAny_Call_Name_kw (ld_glob I hg g ?_ hdb)⟩
  refine PySem.W.callWith_K (h₀ := X.base) I.ok.mod.kin kp (thn (ha.run pos pins s σ H _ I h) fun us s1 ⟨vs, H1, I1, r, hz, C', g', q⟩ => ⟨I1.kIn, ?_⟩) hs hp
  rw [g] at g'
  cases g'
  exact runMkS ⟨mk, me.at_, me.fn, kp⟩ F hr hG (hx σ) I1 r hz q
end
end Fu
set_option Elab.async false
set_option linter.all false
set_option maxRecDepth 100000
set_option maxHeartbeats 4000000
namespace Fu
open PySem PySem.Spec PyProof.Rows L2 Hv
section
variable {K : PySem.W.Frag} {mg : Str → Option Value} {E : L2.St → XK}
/-- C(..), made by an __init__(self, *v) -/
def dMakeS (c : Str) (S : SpecT) (a : DA) : DE := fun P X ev => a (fun ts ev1 => ts.length ≤ sizeLine ∧ S [.cell ev1.st.length, .tup ts] (ev1.st ++ [(false, .ins c [])]) (fun r st' => (match r with | .fr .non => True | _ => False) ∧ ∃ fts, st' = ev1.st ++ [(false, .ins c fts)] ∧ noCf fts = true ∧ P (.ins c fts) ev1) fun x st' => X x { ev1 with st := st' }) X ev
theorem snd_makeS {c : Str} {S : SpecT} (hm : MkF K mg c) {t : TA} {a : DA} (h : SndA K mg E t a) : Snd K mg E (tMkS mg c (spF K mg 2 S) E t) (dMakeS c S a) := fun D as G ev σ H Q P X R hf hP hX =>
  h D as G ev σ H _ _ X R hf (fun ts ev1 as1 G1 vs H1 ⟨hl, p⟩ R1 x1 tvs => by
    obtain ⟨C, m, ci⟩ := hm.ex
    refine ⟨by rw [← tvs.length]; exact hl, C, m, fun x dx pt hx hdx ne hpt => ?_⟩
    have hdx1 : upd H1 dx (.own x) x = none := by rw [upd_ne (Ne.symm ne)]; exact hx
    have R2 : RelS K mg as1 G1 ev1.st (upd (upd H1 dx (.own x)) x (.ins C dx [])) := (R1.s.oth (o := .own x) (R1.s.sub.free hdx) fun z => (R1.s.mem z).1 hdx).oth (R1.s.sub.free hx) fun z => (R1.s.mem z).1 hx
    have nx : x ∉ as1 := fun z => (R1.s.mem z).1 hx
    have gx : G1 x = none := R1.s.sub.free hx
    have R3 := R2.box (t := .ins c []) gx nx upd_same (.ins m ci rfl .nil)
    have c0 : Chg as1 G1 H1 as1 G1 (upd (upd H1 dx (.own x)) x (.ins C dx [])) := (Chg.new hdx).trans (Chg.new hdx1)
    have c1 : Chg as1 G1 H1 (as1 ++ [x]) G1 (upd (upd H1 dx (.own x)) x (.ins C dx [])) := ⟨⟨[x], rfl, fun b hb => by rw [List.mem_singleton.mp hb]; exact hx⟩, c0.g, c0.gn, c0.fr, c0.keep, c0.lk⟩
    have gpt : G1 pt = none := R3.sub.free hpt
    have R5 := R3.fz (o := .tup vs) hpt
    have c2 := c1.trans (Chg.fz (o := .tup vs) R3.sub hpt)
    have xx : Ext as1 G1 (as1 ++ [x]) (upd G1 pt (.tup vs)) := ⟨⟨[x], rfl⟩, (Ext.new (as := as1) (o := .tup vs) gpt).2⟩
    refine ⟨as1 ++ [x], upd G1 pt (.tup vs), [.cell ev1.st.length, .tup ts], _, _, _, rfl, R5, .cons (.cell (by rw [← R1.s.len]; simp)) (.cons (.tup (.inl (.inl upd_same)) (tvs.mono xx)) .nil), p, fun r st' as' G' v H' q R' ch rc => ?_, fun y st' as' G' c oa H' q R' ch xv => ?_⟩
    · obtain ⟨hr, fts, e, nc, q⟩ := q
      have vn : v = .non := by
        match r, hr with
        | .fr .non, _ => cases rc; rfl
      refine ⟨vn, ?_⟩
      subst e
      obtain ⟨m', e', hm'⟩ := ch.more
      have hm0 : m' = [] := by
        have := R'.len
        rw [e', List.length_append, List.length_append, List.length_append, R1.s.len] at this
        simpa using this
      subst hm0
      rw [List.append_nil] at e'
      subst e'
      obtain ⟨g, o, ob, at_⟩ := R'.cell ev1.st.length (false, .ins c fts) x (by simp) (by rw [← R1.s.len]; simp)
      have hH : H' x = some o := by unfold Ats at at_; rw [if_neg (by simp)] at at_; exact at_
      cases ob with
      | ins m2 ci2 n2 b2 =>
        rename_i C2 dx2 fs2
        have RS : RelS K mg as1 G' ev1.st H' := ⟨R'.sub, R1.s.nd, R1.s.len, fun j d b hj hb => by
          have hj' : (ev1.st ++ [(false, .ins c fts)])[j]? = some d := by rw [List.getElem?_append_left (List.getElem?_eq_some_iff.mp hj).1]; exact hj
          have hb' : (as1 ++ [x])[j]? = some b := ext_get hb
          obtain ⟨g3, o3, ob3, at3⟩ := R'.cell j d b hj' hb'
          obtain ⟨_, o4, ob4, _⟩ := R1.s.cell j d b hj hb
          exact ⟨g3, o3, ob4.back ob3, at3⟩⟩
        have RS2 := RS.stay (p := x) (o := .ins C2 dx2 fs2) (u := .ins C2 dx2 fs2) g nx
        have same : upd H' x (.ins C2 dx2 fs2) = H' := by
          funext b
          by_cases e : b = x
          · rw [e, upd_same, hH]
          · rw [upd_ne e]
        rw [same] at RS2
        have cc := c2.trans ch
        have ch2 : Chg as1 G1 H1 as1 (upd G' x (.ins C2 dx2 fs2)) H' := ⟨⟨[], by simp⟩, fun b o e => by rw [upd_ne (ne_of_none e gx)]; exact cc.g b o e, fun b hb => by
          by_cases e : b = x
          · exact .inr (by rw [e]; exact hx)
          · rw [upd_ne e] at hb; exact cc.gn b hb, cc.fr, cc.keep, cc.lk⟩
        have R4 := R1.call RS2 ch2
        refine hP _ _ as1 _ _ H' q R4 (x1.trans ch2.ext) (.ins m2 ci2 upd_same n2 ?_)
        exact (b2.mono (Ext.new g)).noc (by rw [← noCf_map]; exact nc)
    · have cc := c2.trans ch
      exact hX y _ as' G' c oa H' q (R1.call R' cc) (x1.trans cc.ext) xv) hX
end
end Fu
set_option Elab.async false
set_option linter.all false
set_option maxRecDepth 100000
set_option maxHeartbeats 4000000
namespace Fu
open PySem PySem.Spec PyProof.Rows L2 Hv
/-! # a property of an own class -/
section
variable {P : Program} {w : World} {K : PySem.W.Frag} {mg : Str → Option Value} {base : Heap} {k : Nat}
structure MCalP (P : Program) (w : World) (K : PySem.W.Frag) (mg : Str → Option Value) (base : Heap) (k : Nat) (c m : Str) (sp : Sp) : Prop where
  ex : ∃ (C p g : Addr) (fd : FuncData), mg c = some (.ref C) ∧ Cls K C ∧ PropOf K C m p g ∧ Binds K fd ["self"] [] ∧ FnG P w K mg base k g fd ["self"] sp
structure PropDef (K : PySem.W.Frag) (mg : Str → Option Value) (c m qual : Str) (st : Stmt) : Prop where
  ex : ∃ (C p g : Addr) (fd : FuncData), mg c = some (.ref C) ∧ Cls K C ∧ PropOf K C m p g ∧ Fun K m qual st g fd ∧ Binds K fd ["self"] []
theorem prop_ok {c m qual : Str} {st : Stmt} {N : List Str} {f : DS} (D : PropDef K mg c m qual st) (S : FnScope N ["self"] (defScope st))
    (hb : ∀ (fa : Addr) (cd : Value) (A : Around) (up : List Env) (s : Shared) (H : Hp) (Ek : XK), Room k (A.deeper (envOfC qual (defScope st) s.heap.objs.size fa cd)) → (A.deeper (envOfC qual (defScope st) s.heap.objs.size fa cd)).guards = some [] →
      ∃ t, PSs (cxOf (L2.CX P w) P w K mg base N qual (defScope st) fa cd A up s H Ek) (defBody st) t ∧ SndS K mg (fun _ => Ek) t f) :
    MCalP P w K mg base (k + 1) c m (spF K mg 1 (bodyS N.length f)) := by
  obtain ⟨C, p, g, fd, e, cl, pr, F, b⟩ := D.ex
  refine ⟨C, p, g, fd, e, cl, pr, b, Fun.okG F S (fun vs H Q E h => spF.len h) fun cd A up s H vs Q E hr hG h => ?_⟩
  obtain ⟨t, h1, h2⟩ := hb g cd A up s H E hr hG
  exact ⟨t, h1, body_ok h2 h⟩
theorem MCalP.impF {c m : Str} {S S' : SpecT} (D : MCalP P w K mg base k c m (spF K mg 1 S)) (h : ∀ ts st P X, S' ts st P X → S ts st P X) : MCalP P w K mg base k c m (spF K mg 1 S') := by
  obtain ⟨C, p, g, fd, e, cl, pr, b, F⟩ := D.ex
  exact ⟨C, p, g, fd, e, cl, pr, b, fun vs H Q E q => F.len vs H Q E (spF.imp h q), fun A up s H ar us vs Q E hr hG e0 bt rv hs => F.go A up s H ar us vs Q E hr hG e0 bt rv (spF.imp h hs)⟩
theorem MCalP.has {c m : Str} {sp : Sp} (D : MCalP P w K mg base k c m sp) : HasM K mg c m := by
  obtain ⟨C, p, g, fd, e, cl, pr, b, F⟩ := D.ex
  exact ⟨C, _, e, pr.at_⟩
end
/-- o.f: no exception comes -/
def tPr (mg : Str → Option Value) (c : Str) (sp : Sp) (ta : TE) : TE := fun σ H Q => ta σ H fun x H1 => ∃ a C dx fs, x = .ref a ∧ mg c = some (.ref C) ∧ H1 a = some (.ins C dx fs) ∧ sp [x] H1 Q fun _ _ _ => False
section
variable {X : Cx} {k : Nat} {c f : Str} {sp : Sp} {pos : Pos} {e : Expr} {ta : TE}
theorem pe_pr {mg : Str → Option Value} (hmg : X.mg = mg) (D : MCalP X.prog X.w X.K X.mg X.base k c f sp) (hr : Room (k + 1) X.A) (hG : X.A.guards = some []) (he : PE X e ta)
    (hab : attributeBase e f X.env (eval e X.env) = eval e X.env := by rfl) : PE X (.Attribute e f pos) (tPr mg c sp ta) := by
  subst hmg
  obtain ⟨C, p, g, fd, gC, cl, hp, b, F⟩ := D.ex
  refine ⟨fun pins s σ H Q I h => attr_of hab (thn (he.run pins s σ H _ I h) fun u s1 ⟨x, H1, I1, rx, a, C', dx, fs, ex, g', ea, q⟩ => ?_)⟩
  rw [gC] at g'
  cases g'
  subst ex
  obtain rfl : u = Value.ref a := rx
  obtain ⟨mA, O, _, _, _, _⟩ := ins_get I1.hok ea
  obtain ⟨od, J, _⟩ := O.look
  obtain ⟨rest, hrec⟩ := hp.rec_
  have I2 := I1.tok (s1.toks + 1)
  have hc : (PySem.W.clsIn X.K C).isSome = true := by
    obtain ⟨cd, hc, _⟩ := PySem.W.any_some cl.hd
    rw [hc]
    rfl
  have bt := b { s1 with toks := s1.toks + 1 } [.ref a] I2.kIn rfl
  rw [List.append_nil] at bt
  refine PySem.W.get_bind I1.kIn J (PySem.W.plainGet_of (cl.get f)).1 (PySem.W.findObj_data hc hp.at_ hp.get hp.tak) (PySem.W.plainGet_of (cl.get f)).2 (wpAny_call (PySem.W.prop_get (s := { s1 with toks := s1.toks + 1 }) I1.kIn hrec ?_))
  have hG2 : (Around.in1 X.A).guards = some [] := hG
  refine codeAny_mono (F.go X.A.in1 X.stack { s1 with toks := s1.toks + 1 } H1 ⟨[.ref a], []⟩ [.ref a] [.ref a] Q (fun _ _ _ => False) hr.in1 hG2 I2.env0.in1 bt (.cons rfl .nil) q) fun r s' hq => ?_
  cases r with
  | error er => exact False.elim (by obtain ⟨_, _, _, _, _, _, _, _, _, _, _, _, hE⟩ := hq; exact hE)
  | ok fl =>
    cases fl with
    | ret u =>
      obtain ⟨v, H', I3, rv, q3⟩ := I2.after hq
      show wpAny _ _ (handedOut u) _ _ _
      rw [PySem.W.handedOut_of (handed_of rv)]
      exact wpAny_pure ⟨v, H', I3, rv, q3⟩
    | next => exact False.elim hq
    | brk => exact False.elim hq
    | cont => exact False.elim hq
end
section
variable {K : PySem.W.Frag} {mg : Str → Option Value} {E : L2.St → XK}
/-- o.f, a property -/
def dProp (c : Str) (S : SpecT) (o : DE) : DE := fun P X ev => o (fun t ev1 => seeI ev1 t c (S [t] ev1.st (fun r st' => P r.val { ev1 with st := st' }) fun _ _ => False)) X ev
theorem snd_prop {c : Str} {S : SpecT} {ta : TE} {o : DE} (h : Snd K mg E ta o) : Snd K mg E (tFz (tPr mg c (spF K mg 1 S) ta)) (dProp c S o) := fun D as G ev σ H Q P X R hf hP hX =>
  h D as G ev σ H _ _ X R hf (fun r ev1 as1 G1 v H1 p R1 x1 tv => by
    obtain ⟨p, a0, C, dx, fs, rfl, m, ci, at_⟩ := seeI_ok R1 tv p
    refine ⟨a0, C, dx, fs, rfl, m, at_, as1, G1, [r], ev1.st, _, _, rfl, R1.s, .cons tv .nil, p, fun r st' as' G' v H' q R' c rc => ?_, fun x st' as' G' c oa H' q R' ch xv => q.elim⟩
    have R3 := R1.call R' c
    cases r with
    | fr t => exact .inl (hP t _ as' G' v H' q R3 (x1.trans c.ext) rc)
    | ow t =>
      obtain ⟨b, rfl, ob, gb, nb, hb⟩ := rc
      exact own_stay R3 ⟨ob, gb, nb, R1.c.keep b hb⟩ (fun ⟨i, u, e1, e2⟩ => R1.notOw hb ⟨i, u, e1, e2⟩) fun G2 H2 R3 x3 tv3 => hP t _ as' G2 _ H2 q R3 ((x1.trans c.ext).trans x3) tv3) hX
end
end Fu
set_option Elab.async false
set_option linter.all false
set_option maxRecDepth 100000
set_option maxHeartbeats 4000000
namespace Fu
open PySem PySem.Spec PyProof.Rows L2 Hv
/-! # t[::-1] of a tuple -/
section
variable {prog : Program} {w : World} {A : Around} {E : Value → Shared → Prop} {s : Shared}
theorem places_back (n : Nat) : Builtin.Slice.slicePlaces ((n : Int) - 1) (-1) (-1) = n := by
  unfold Builtin.Slice.slicePlaces
  have h1 : ¬ ((-1 : Int) > 0) := by omega
  simp only [h1, if_false]
  split
  · rw [show (- -1 : Int) = 1 by decide, Int.ediv_one]; omega
  · omega
theorem sliceApplied_back {sl : Addr} {vl vu vs : Value} {n : Nat} {Q : Int × Int × Nat → Shared → Prop} (hs : s.heap.IsSliceOf sl vl vu vs) (pl : IsPart vl none) (pu : IsPart vu none) (ps : IsPart vs (some (-1)))
    (h : Q ((n : Int) - 1, -1, n) s) : wpAny (model prog w) A (Builtin.Slice.sliceApplied (.ref sl) (pure (n : Int))) Q E s := by
  obtain ⟨os, hos, hcs, hds⟩ := id hs
  unfold Builtin.Slice.sliceApplied Builtin.Slice.sliceFields
  refine wpAny_bind (wpAny_bind (wpAny_field hos hds (x := vl) rfl (wpAny_bind (wpAny_field hos hds (x := vu) rfl (wpAny_bind (wpAny_field hos hds (x := vs) rfl (wpAny_pure ?_)))))))
  refine wpAny_bind (HT.slicePart_ ps ?_)
  show wpAny _ _ (if ((-1 : Int) == 0) = true then _ else _) _ _ s
  rw [if_neg (by decide)]
  refine wpAny_bind (HT.slicePart_ pl (wpAny_bind (HT.slicePart_ pu (wpAny_bind (wpAny_pure ?_)))))
  show wpAny _ _ (pure ((n : Int) - 1, (-1 : Int), Builtin.Slice.slicePlaces ((n : Int) - 1) (-1) (-1))) _ _ s
  rw [places_back]
  exact wpAny_pure h
theorem fm_congr {α β : Type} {f g : α → Option β} : ∀ {xs : List α}, (∀ x ∈ xs, f x = g x) → xs.filterMap f = xs.filterMap g
  | [], _ => rfl
  | x :: xs, h => by
    rw [List.filterMap_cons, List.filterMap_cons, h x (.head _), fm_congr fun y hy => h y (.tail _ hy)]
theorem pick_back (xs : Array Value) : ((List.range xs.size).filterMap fun (m : Nat) => xs[((xs.size : Int) - 1 + (m : Int) * (-1)).toNat]?).toArray = xs.toList.reverse.toArray := by
  have e : (List.range xs.size).filterMap (fun (m : Nat) => xs[((xs.size : Int) - 1 + (m : Int) * (-1)).toNat]?) = ((List.range xs.size).map fun k => xs.size - 1 - k).filterMap (xs[·]?) := by
    rw [List.filterMap_map]
    refine fm_congr fun m hm => ?_
    have := List.mem_range.mp hm
    have e : ((xs.size : Int) - 1 + (m : Int) * (-1)).toNat = xs.size - 1 - m := by omega
    rw [e]
    rfl
  rw [e, PySem.W.krv_range, List.filterMap_reverse, PySem.W.krv_all]
theorem getItem_tuple_back {t sl : Addr} {items : Array Value} {vl vu vs : Value} {Q : Value → Shared → Prop} (ht : IsTup s.heap t items) (hs : s.heap.IsSliceOf sl vl vu vs) (pl : IsPart vl none) (pu : IsPart vu none) (ps : IsPart vs (some (-1)))
    (h : Q (.ref s.heap.objs.size) { s with heap := s.heap.push { cls := .type "tuple", data := .seq items.toList.reverse.toArray } })
    (hsz : items.size ≤ sizeLine) : wpAny (model prog w) A (getItem (.ref t) (.ref sl)) Q E s := by
  have htake : sizeOk (.seq items.toList.reverse.toArray) := by
    show items.toList.reverse.toArray.size ≤ sizeLine
    rw [List.size_toArray, List.length_reverse, Array.length_toList]
    exact hsz
  obtain ⟨os, hos, hcs, hds⟩ := id hs
  have hTs : s.TypeIs (.ref sl) "slice" := ⟨os, hos, hcs⟩
  unfold getItem
  try with_reducible refine wpAny_holding ?_
  first | refine wpAny_bind (wpAny_pure ?_) | skip
  refine wpAny_bind (wpAny_sequenceKey ht.typeIs (by decide) ?_)
  refine wpAny_bind (wpAny_callSpecial?_slot (name := Str.ofString "__getitem__") ht.typeIs PyProof.Rows.slot_tuple_getitem
    (wpAny_call_entry PyProof.Rows.slot_tuple_getitem ht.typeIs entry_tuple_getitem ?_ (args_tuple_getitem _ _)))
  show wpAny _ _ (Builtin.Tuple.tupleItemsOf (.ref t) >>= _) _ _ s
  refine wpAny_bind (tupleItemsOf_ ht ?_)
  refine wpAny_bind (wpAny_typeOf hTs ?_)
  rw [if_pos (by decide)]
  refine wpAny_bind (sliceApplied_back hs pl pu ps ?_)
  have hno : ¬ ((((items.size : Int) - 1) == 0 && (-1 : Int) == 1 && items.size == items.size) = true) := by
    intro q
    rw [Bool.and_eq_true, Bool.and_eq_true] at q
    exact absurd q.1.2 (by decide)
  show wpAny _ _ (if ((((items.size : Int) - 1) == 0 && (-1 : Int) == 1 && items.size == items.size)) = true then _ else _) _ _ s
  rw [if_neg hno, pick_back]
  first
    | exact wpAny_bind (m := Builtin.Tuple.tupleExact _) (wpAny_newObj_type (wpAny_pure ⟨_, rfl, wpAny_pure h⟩) htake)
    | exact wpAny_bind (m := Builtin.Tuple.tupleExact _) (wpAny_newObj_type (wpAny_bind (wpAny_pure (wpAny_pure ⟨_, rfl, wpAny_pure h⟩))) htake)
    | exact wpAny_bind (wpAny_bind (m := Builtin.Tuple.tupleExact _) (wpAny_newObj_type (wpAny_pure (wpAny_pure ⟨_, rfl, wpAny_pure h⟩)) htake))
    | exact wpAny_bind (wpAny_bind (m := Builtin.Tuple.tupleExact _) (wpAny_newObj_type (wpAny_pure ⟨_, rfl, wpAny_pure h⟩) htake))
end
def tRevT (K : PySem.W.Frag) (te : TE) : TE := fun σ H Q => te σ H fun x H1 => ∃ a xs, x = .ref a ∧ SqT K H1 a xs ∧ ∀ p, H1 p = none → Q (.ref p) (upd H1 p (.tup xs.reverse))
theorem pe_revT {X : Cx} {K : PySem.W.Frag} (hK : X.K = K) {e : Expr} {te : TE} {k : Nat} {p1 p2 p3 pos : Pos} (he : PE X e te) : PE X (.Subscript e (.Slice none none (some (.UnaryOp .USub (.Constant (.int 1) k p1) p2)) p3) pos) (tRevT K te) := by
  subst hK
  refine ⟨fun pins s σ H Q I h => ?_⟩
  refine Subscript_ (thn (he.run pins s σ H _ I h) fun v s1 ⟨x, H1, I1, r1, q1⟩ => ?_)
  obtain ⟨a, xs, ex, hx, q⟩ := q1
  subst ex
  cases r1
  have hst : L2.PO X (some (.UnaryOp .USub (.Constant (.int 1) k p1) p2)) (tPart (tUn (rU fun i => .int (-i)) (tC (.int 1)))) := po_some (pe_un un_neg pe_int)
  refine wpAny_Slice (thn (po_none.run pins s1 σ H1 (fun o H2 => o = none ∧ H2 = H1) I1 ⟨rfl, rfl⟩) fun vl s2 ⟨l, H2, I2, pl, el, e2⟩ => ?_)
  subst el e2
  refine thn (po_none.run pins s2 σ H2 (fun o H3 => o = none ∧ H3 = H2) I2 ⟨rfl, rfl⟩) fun vu s3 ⟨u, H3, I3, pu, eu, e3⟩ => ?_
  subst eu e3
  refine thn (hst.run pins s3 σ H3 (fun o H4 => o = some (-1) ∧ H4 = H3) I3 ⟨1, rfl, -1, rfl, rfl, rfl⟩) fun vs s4 ⟨o, H4, I4, ps, eo, e4⟩ => ?_
  subst eo e4
  have I5 : Inv X pins σ H4 { s4 with heap := s4.heap.push { cls := .type "slice", data := .fields #[vl, vu, vs] } } := I4.kept (t' := s4.toks) fun b ob q => Heap.get?_push_of_some _ q
  obtain ⟨its, r, ht, hz⟩ := I5.tuple hx
  have hlen := r.length
  show wpAny (model X.prog X.w) X.A (subscriptTail e (.Slice none none (some (.UnaryOp .USub (.Constant (.int 1) k p1) p2)) p3) (.ref a) (.ref s4.heap.objs.size)) (EP X pins σ Q) X.xe { s4 with heap := s4.heap.push { cls := .type "slice", data := .fields #[vl, vu, vs] } }
  refine tail_any (ops := [.ref a, .ref s4.heap.objs.size]) ht.typeIs (PyProof.Rows.slot_tuple_getitem.lookup) ?_ (by with_unfolding_all rfl)
  refine getItem_tuple_back ht (Heap.IsSliceOf.new _ vl vu vs) pl pu ps ?_ (by rw [List.size_toArray]; omega)
  refine ⟨.ref _, _, I5.laid (t' := s4.toks) (o := .tup xs.reverse) (fun b ob q => Heap.get?_push_of_some _ q) (Nat.le_refl _) ?_, rfl, q _ (I5.hok.fresh (Nat.le_refl _))⟩
  exact ⟨by rw [List.length_reverse]; exact hz, _, r.reverse, IsTup.new _ _⟩
section
variable {K : PySem.W.Frag} {mg : Str → Option Value} {E : L2.St → XK}
theorem TVs.rev {as : List Addr} {G : Hp} : ∀ {ts : List T} {vs : List V}, TVs K mg as G ts vs → TVs K mg as G ts.reverse vs.reverse
  | _, _, .nil => .nil
  | _, _, .cons a b => by
    rw [List.reverse_cons, List.reverse_cons]
    exact (TVs.rev b).app (.cons a .nil)
def dRevT (f : DE) : DE := fun P X ev => f (fun t ev1 => match deref ev1.st t with
  | some (.tup us) => P (.tup us.reverse) ev1
  | _ => False) X ev
theorem snd_revT {t : TE} {f : DE} (h : Snd K mg E t f) : Snd K mg E (tRevT K t) (dRevT f) := fun D as G ev σ H Q P X R hf hP hX =>
  h D as G ev σ H _ _ X R hf (fun t ev1 as1 G1 v H1 p R1 x1 tv => by
    split at p
    · rename_i us e
      obtain ⟨a, vs, rfl, hs, b⟩ := deref_ok R1.s tv e
      refine ⟨a, vs, rfl, SqT.le R1.s.sub hs, fun q hq => ?_⟩
      have x2 := Ext.new (as := as1) (o := .tup vs.reverse) (R1.s.sub.free hq)
      exact hP _ ev1 as1 _ _ _ p (R1.fz hq) (x1.trans x2) (.tup (.inl (.inl upd_same)) (b.rev.mono x2))
    · exact p.elim) hX
/-! # s.upper() -/
def dUp (f : DE) : DE := fun P X ev => f (fun t ev1 => match t with
  | .str z => z.length ≤ 5592405 ∧ P (.str (Txt.upper z)) ev1
  | _ => False) X ev
theorem snd_up {t : TE} {f : DE} (h : Snd K mg E t f) : Snd K mg E (tM0 (fun x xs H Q => ∃ a, x = .str a ∧ xs = [] ∧ a.length ≤ 5592405 ∧ Q (.str (Txt.upper a)) H) t) (dUp f) := fun D as G ev σ H Q P X R hf hP hX =>
  h D as G ev σ H _ _ X R hf (fun t ev1 as1 G1 v H1 p R1 x1 tv => by
    match t, p with
    | .str z, ⟨hl, p⟩ =>
      cases tv with
      | str _ => exact ⟨⟨z, rfl⟩, z, rfl, rfl, hl, hP _ ev1 as1 G1 _ H1 p R1 x1 (.str _)⟩) hX
/-! # a tuple of texts at the top of a module -/
def CTup (K : PySem.W.Frag) (mg : Str → Option Value) (x : Str) (zs : List Str) : Prop := ∃ a, mg x = some (.ref a) ∧ ∀ G, SqT K G a (zs.map V.str)
theorem tvs_strs {as : List Addr} {G : Hp} : ∀ zs : List Str, TVs K mg as G (zs.map T.str) (zs.map V.str)
  | [] => .nil
  | z :: zs => .cons (.str z) (tvs_strs zs)
theorem snd_ct {a : Addr} {zs : List Str} (h : ∀ G, SqT K G a (zs.map V.str)) : Snd K mg E (tC (.ref a)) (dC (.tup (zs.map T.str))) := fun D as G ev σ H Q P X R hf hP hX =>
  hP _ ev as G _ H hf R Ext.refl (.tup (h G) (tvs_strs zs))
theorem textsB_ok : ∀ {us : List Value} {zs : List Str}, textsB us zs = true → Vals (zs.map V.str) us
  | [], [], _ => .nil
  | .str z t :: us, y :: ys, h => by
    rw [textsB, Bool.and_eq_true] at h
    obtain rfl := of_decide_eq_true h.1
    exact .cons ⟨t, rfl⟩ (textsB_ok h.2)
theorem ctB_ok {h : Heap} (X : K.In h) (G : h.Ns mainGlobals mg) {x : Str} {zs : List Str} (c : ctB K x zs = true) : CTup K mg x zs := by
  unfold ctB at c
  obtain ⟨c1, c2⟩ := band c
  refine ⟨_, He.glo_ok X G c1, fun G => ?_⟩
  split at c2
  · rename_i cc dd its n sl e
    obtain ⟨c3, c4⟩ := band c2
    obtain ⟨c4, c5⟩ := band c4
    exact .inr ⟨_, its, n, e, of_decide_eq_true c3, rfl, Nat.le_trans (of_decide_eq_true c4) (by rw [sizeLine_eq]; decide), textsB_ok c5⟩
  · cases c2
end
/-! # a def of the top, called by keywords -/
section
variable {P : Program} {w : World} {K : PySem.W.Frag} {mg : Str → Option Value} {base : Heap} {k : Nat}
structure CalL (P : Program) (w : World) (K : PySem.W.Frag) (mg : Str → Option Value) (base : Heap) (k : Nat) (x : Str) (ps : List Str) (sp : Sp) : Prop where
  ex : ∃ (f : Addr) (fd : FuncData), mg x = some (.ref f) ∧ PySem.W.keepIn K (.ref f) = true ∧ LkF K f fd ∧ Binds K fd ps [] ∧ FnG P w K mg base k f fd ps sp
theorem def_okL {x : Str} {st : Stmt} {ps N : List Str} {f : DS} (D : TopDef K mg x st ps) (S : FnScope N ps (defScope st))
    (hb : ∀ (fa : Addr) (cd : Value) (A : Around) (up : List Env) (s : Shared) (H : Hp) (Ek : XK), Room k (A.deeper (envOfC x (defScope st) s.heap.objs.size fa cd)) → (A.deeper (envOfC x (defScope st) s.heap.objs.size fa cd)).guards = some [] →
      ∃ t, PSs (cxOf (L2.CX P w) P w K mg base N x (defScope st) fa cd A up s H Ek) (defBody st) t ∧ SndS K mg (fun _ => Ek) t f) :
    CalL P w K mg base (k + 1) x ps (spF K mg ps.length (bodyS N.length f)) := by
  obtain ⟨fa, fd, g, F, b⟩ := D.ex
  refine ⟨fa, fd, g, F.kp, F.lkf, b, Fun.okG F S (fun vs H Q E h => spF.len h) fun cd A up s H vs Q E hr hG h => ?_⟩
  obtain ⟨t, h1, h2⟩ := hb fa cd A up s H E hr hG
  exact ⟨t, h1, body_ok h2 h⟩
theorem CalL.impF {x : Str} {ps : List Str} {n : Nat} {S S' : SpecT} (D : CalL P w K mg base k x ps (spF K mg n S)) (h : ∀ ts st P X, S' ts st P X → S ts st P X) : CalL P w K mg base k x ps (spF K mg n S') := by
  obtain ⟨f, fd, g, kp, lk, b, F⟩ := D.ex
  exact ⟨f, fd, g, kp, lk, b, fun vs H Q E q => F.len vs H Q E (spF.imp h q), fun A up s H ar us vs Q E hr hG e0 bt rv hs => F.go A up s H ar us vs Q E hr hG e0 bt rv (spF.imp h hs)⟩
theorem CalL.cal {x : Str} {ps : List Str} {sp : Sp} (D : CalL P w K mg base k x ps sp) : Cal P w K mg base k x ps sp := by
  obtain ⟨f, fd, g, kp, lk, b, F⟩ := D.ex
  exact ⟨f, fd, g, kp, b, F⟩
structure CalK (P : Program) (w : World) (K : PySem.W.Frag) (mg : Str → Option Value) (base : Heap) (k : Nat) (x : Str) (n : Nat) (ks : List Str) (is : List Nat) (sp : Sp) : Prop where
  ex : ∃ (f : Addr) (fd : FuncData) (ps : List Str), mg x = some (.ref f) ∧ PySem.W.keepIn K (.ref f) = true ∧ KBn K fd ps n ks (gP is) (gP is) ∧ FnG P w K mg base k f fd ps sp
theorem CalL.kw {x : Str} {st : Stmt} {ps : List Str} {sp : Sp} (D : CalL P w K mg base k x ps sp) (T : TopDef K mg x st ps) (n : Nat) (ks : List Str) (is : List Nat)
    (h : ∀ (kV doc pm : Value) (an : Option Addr) (cdv ct : Value) (us ws : List Value), us.length = n → ws.length = ks.length → bindArgs (PySem.W.fnOf x x (defArgs st) (defBody st) (defScope st) .none kV doc pm an cdv ct) ⟨us, ks.zip ws⟩ = pure (ps.zip (gP is us ws))) :
    CalK P w K mg base k x n ks is sp := by
  obtain ⟨f, fd, g, kp, lk, b, F⟩ := D.ex
  obtain ⟨f', fd', g', F', b'⟩ := T.ex
  rw [g] at g'
  cases g'
  obtain rfl := lk.same F'.lkf
  exact ⟨f, fd, ps, g, kp, Hv.Fun.kb F' n ks (gP is) (fun r rz => gP_vals (Vals.append r rz) is) h, F⟩
end
section
variable {X : Cx} {k : Nat} {x : Str} {ks : List Str} {sp : Sp} {E : L2.St → XK} {p pos : Pos} {e : Expr} {es : List Expr} {t tk : TA} {kws : List Keyword} {n : Nat} {is : List Nat}
/-- f(e, .., k = v, ..) -/
theorem pe_csK (D : CalK X.prog X.w X.K X.mg X.base k x n ks is sp) (hr : Room k X.A) (hG : X.A.guards = some []) (hg : Gl X x) (hx : ∀ σ, PassesAt (L2.CX X.prog X.w) X σ (E σ)) (ha : PA X (e :: es) t) (hkw : PK X kws tk)
    (hall : (backToKw pos (keywordEach kws X.env)).all (·.1.isSome) = true := by rfl) (hks : (backToKw pos (keywordEach kws X.env)).filterMap (·.1) = ks := by rfl)
    (hdb : (x == ("__debug__" : Str)) = false := by decide) (hs : starEach (e :: es) X.env = (false, eval e X.env) :: starEach es X.env := by rfl)
    (hp : ((backTo pos (starEach (e :: es) X.env)).any (·.1) || (backToKw pos (keywordEach kws X.env)).any (·.1.isNone)) = false := by rfl) :
    PE X (.Call (.Name x p) (e :: es) kws pos) (tCallS sp E (tKw n ks.length is t tk)) := by
  obtain ⟨f, fd, ps, g, kp, b, F⟩ := D.ex
  refine ⟨fun pins s σ H Q I h => wpAny_Call_Name_kw (ld_glob I hg g ?_ hdb)⟩
  refine PySem.W.callWith_KW (h₀ := X.base) I.ok.mod.kin kp hall (thn (ha.run pos pins s σ H _ I h) fun us s1 ⟨vs, H1, I1, r, q⟩ => ?_) hp hs
  refine thn (hkw.run pos pins s1 σ H1 _ I1 q) fun ws s2 ⟨zs, H2, I2, rz, l1, l2, q2⟩ => ⟨I2.kIn, ?_⟩
  rw [hks]
  exact runGSK F hr hG b (hx σ) I2 r rz l1 l2 q2
/-- f(k = v, ..) -/
theorem pe_csK0 (D : CalK X.prog X.w X.K X.mg X.base k x 0 ks is sp) (hr : Room k X.A) (hG : X.A.guards = some []) (hg : Gl X x) (hx : ∀ σ, PassesAt (L2.CX X.prog X.w) X σ (E σ)) (hkw : PK X kws tk)
    (hall : (backToKw pos (keywordEach kws X.env)).all (·.1.isSome) = true := by rfl) (hks : (backToKw pos (keywordEach kws X.env)).filterMap (·.1) = ks := by rfl)
    (hdb : (x == ("__debug__" : Str)) = false := by decide) (hp : ((backTo pos (starEach [] X.env)).any (·.1) || (backToKw pos (keywordEach kws X.env)).any (·.1.isNone)) = false := by rfl) :
    PE X (.Call (.Name x p) [] kws pos) (tCallS sp E (tKw 0 ks.length is tNil tk)) := by
  obtain ⟨f, fd, ps, g, kp, b, F⟩ := D.ex
  refine ⟨fun pins s σ H Q I h => wpAny_Call_Name_kw (ld_glob I hg g ?_ hdb)⟩
  refine PySem.W.callWith_KW0 (h₀ := X.base) I.ok.mod.kin kp hall ?_ hp
  refine thn (hkw.run pos pins s σ H _ I h) fun ws s2 ⟨zs, H2, I2, rz, l1, l2, q2⟩ => ⟨I2.kIn, ?_⟩
  rw [hks]
  exact runGSK (us := []) (vs := []) F hr hG b (hx σ) I2 .nil rz rfl l2 q2
end
end Fu
set_option Elab.async false
set_option linter.all false
set_option maxRecDepth 100000
set_option maxHeartbeats 4000000
namespace PySem.W
open PySem
/-! # enumerate(v), v told by its iterator -/
theorem meets_enumerate_newB1 {v : Value} {o : Obj} {H : Heap → Prop} (B : Begins v o H) :
    Meets (Builtin.«enumerate.__new__» ⟨[.type "enumerate", v], []⟩) (fun _ R s => H s.heap ∧
      R (.ok (.ret (.ref (s.heap.push o).objs.size))) { s with heap := (s.heap.push o).push { cls := .type "enumerate", data := .fields #[.none, .bool false, .ref s.heap.objs.size, rawInt 0, .none, .none] } }) :=
  .of_wp fun prog w A R s h => by
    obtain ⟨hp, g, d, tk, os⟩ := s; obtain ⟨h1, h⟩ := h
    have hsub := sub_enumerate
    have q1 : ∀ {A' : Around} {E : Value → Shared → Prop} {Q : Value → Shared → Prop}, Q (.ref hp.objs.size) ⟨hp.push o, g, d, tk, os⟩ → wpAny (model prog w) A' (pyIter v) Q E ⟨hp, g, d, tk, os⟩ :=
      fun q => B.iter prog w _ _ ⟨hp, g, d, tk, os⟩ _ h1 q
    wp_walk using q1
    refine wpAny_stack_any fun st => wpAny_pure ?_
    split
    · rename_i c _ _ _ _ _
      cases (c == Value.type "enumerate")
      · wp_walk using q1
        exact ⟨_, rfl, h⟩
      · wp_walk using q1
        exact ⟨_, rfl, h⟩
    · wp_walk using q1
      exact ⟨_, rfl, h⟩
section
variable {prog : Program} {w : World} {A : Around} {E : Value → Shared → Prop} {s : Shared}
theorem enum_begins1 {v : Value} {o : Obj} {H : Heap → Prop} {Q : Value → Shared → Prop} (B : Begins v o H) (h1 : H s.heap)
    (h : ∀ h', IsEnum h' (s.heap.objs.size + 1) s.heap.objs.size 0 .none → h'.get? s.heap.objs.size = some o → h'.objs.size = s.heap.objs.size + 2 →
      (∀ b o, s.heap.get? b = some o → h'.get? b = some o) → Q (.ref (s.heap.objs.size + 1)) { s with heap := h' }) :
    wpAny (model prog w) A (call (.type "enumerate") [v]) Q E s := by
  refine callType_new F.called_enumerate (by decide) (F.typeCall_enumerate_1 _) (F.newCall_enumerate_1 _) (fun obj => F.args_object_init_2 obj _) F.entry_enumerate_new
    (meets_enumerate_newB1 B) ⟨h1, ?_⟩
  have hz : (s.heap.push o).objs.size = s.heap.objs.size + 1 := Heap.size_push ..
  show _ ∧ _
  rw [hz]
  have he : IsEnum ((s.heap.push o).push { cls := .type "enumerate", data := .fields #[.none, .bool false, .ref s.heap.objs.size, rawInt 0, .none, .none] }) (s.heap.objs.size + 1) s.heap.objs.size 0 .none := by
    have := Heap.get?_push_size (s.heap.push o) (o := { cls := .type "enumerate", data := .fields #[.none, .bool false, .ref s.heap.objs.size, rawInt 0, .none, .none] }) rfl
    rw [hz] at this; exact this
  refine ⟨⟨_, he, rfl⟩, h _ he (Heap.get?_push_of_some _ (Heap.get?_push_size _ B.free)) (by rw [Heap.size_push, hz]) fun b o x => Heap.get?_push_of_some _ (Heap.get?_push_of_some _ x)⟩
theorem wpAny_pyNext_enum_endT {e it t : Addr} {i : Nat} {items : Array Value} {c : Int} {old : Value} {Q : Option Value → Shared → Prop}
    (hh : A.in1.handled = none) (he : IsEnum s.heap e it c old) (hit : s.heap.IsTupleIter it t i) (ht : s.heap.IsTuple t items) (hle : items.size ≤ i)
    (hQ : ∀ h', Heap.ExtBut it s.heap h' → Q none { s with heap := h' }) : wpAny (model prog w) A (pyNext (.ref e)) Q E s := by
  have hT : s.TypeIs (.ref e) "enumerate" := ⟨_, he, rfl⟩
  unfold pyNext
  refine wpAny_bind (wpAny_attempt (wpAny_callSpecial?_slot (name := Str.ofString "__next__") hT F.slot_enumerate_next
    (wpAny_call_entry F.slot_enumerate_next hT F.entry_enumerate_next ?_ (F.args_enumerate_next_1 _))))
  show wpAny _ _ (field (.ref e) 2 >>= _) _ _ _
  refine wpAny_bind (wpAny_field he rfl (x := .ref it) rfl ?_)
  refine wpAny_bind (wpAny_nextOf_tuple_end hh hit ht (Array.getElem?_eq_none hle) fun h' x he' hx' => ?_)
  obtain ⟨o, ho, hc⟩ := hx'
  refine wpAny_bind (wpAny_isInstance (T := "StopIteration") (b := true) ⟨o, ho, hc⟩ isSubtype_stop ?_)
  exact wpAny_pure (hQ _ he')
end
end PySem.W
namespace Fu
open PySem PySem.Spec PyProof.Rows L2 Hv
/-- the tuple at a, each item in a new pair -/
def IteT (K : PySem.W.Frag) (a : Addr) : It :=
  ⟨fun i H => ∃ (xs : List V) (x : V), SqT K H a xs ∧ xs[i]? = some x, fun i H v H' => ∃ T x, v = .ref T ∧ H T = none ∧ H' = upd H T (.tup [.int (i : Nat), x]) ∧ ∀ xs, SqT K H a xs → xs[i]? = some x, fun i H => ∃ xs : List V, SqT K H a xs ∧ xs.length ≤ i⟩
theorem turn_enumT {P : Program} {w : World} {K : PySem.W.Frag} {elts : List Expr} {kk : Nat} {tpos : Pos} (a e it : Addr) (hai : a ≠ it) (hae : a ≠ e) :
    Turn P w K (.Tuple elts kk tpos) (IteT K a) [e, it] e (fun i h => (∃ old, IsEnum h e it ((i : Nat) : Int) old) ∧ h.IsTupleIter it a i ∧ e ≠ it) where
  mem := by simp
  obj := fun i h st b hb => by
    obtain ⟨⟨old, he⟩, ⟨o, ho, hc, hd⟩, _⟩ := st
    have e' : b = e ∨ b = it := by simpa using hb
    rcases e' with z | z
    · rw [z]; exact ⟨_, he, fun v q => nomatch q⟩
    · rw [z]; exact ⟨o, ho, fun v q => by rw [hd] at q; cases q⟩
  keep := fun i h h' st k => let ⟨⟨old, he⟩, hi, hne⟩ := st; ⟨⟨old, k e (by simp) _ he⟩, hi.at fun o q => k it (by simp) o q, hne⟩
  item := by
    intro X hP hw hK hc i pins s σ H E I hf st hg
    subst hP hw hK
    obtain ⟨⟨old, he⟩, hit, hne⟩ := st
    obtain ⟨xs, x, hq, hx⟩ := hg
    obtain ⟨its, rv, p, hz⟩ := I.tuple hq
    obtain ⟨u, hu, ru⟩ := rv.get hx
    have hel : e < s.heap.objs.size := Heap.lt_size he
    have hil : it < s.heap.objs.size := by obtain ⟨_, q, _⟩ := hit; exact Heap.lt_size q
    have D := Draws.tuple (prog := X.prog) (w := X.w) (A := X.A.in1) (I.ok.hd hc) it a hai its.toArray
    have hlt : i < its.toArray.size := by
      have := (List.getElem?_eq_some_iff.mp hu).1
      simpa using this
    refine wpAny_pyNext_enum_itemD (n := its.toArray.size) D he ⟨hit, p⟩ hlt hne (by simp [hne, hae.symm]) fun x' h' tk hP ho st' hT hsz hk => ?_
    obtain rfl : x' = u := by
      have hP : its.toArray[i]? = some x' := hP
      have hu2 : its.toArray[i]? = some u := by simpa using hu
      rw [hP] at hu2
      exact Option.some.inj hu2
    refine ⟨_, rfl, wpAny_letOwnedTupleGo_enum (s := { s with heap := h', toks := tk + 1 }) ho fun h'' he' sb => ?_⟩
    have hT2 : h''.get? s.heap.objs.size = some { cls := .type "tuple", data := .seq #[.int i tk, x'] } := (sb.2 _ (Nat.ne_of_gt hel)).trans hT
    have new : ObjOk X.prog X.w (upd H s.heap.objs.size (.tup [.int (i : Nat), x])) h'' s.heap.objs.size (.tup [.int (i : Nat), x]) :=
      ⟨by show 2 ≤ sizeLine; decide, [.int i tk, x'], .cons ⟨_, rfl⟩ (.cons ru .nil), ⟨_, hT2, rfl, _, rfl⟩⟩
    have I1 : Inv X pins σ (upd H s.heap.objs.size (.tup [.int (i : Nat), x])) { s with heap := h'', toks := tk + 1 } :=
      I.turnedNew (ch := [e, it]) (fun b ob hb q => (sb.2 b (fun z => hb (by simp [z]))).trans (hk b ob (fun z => hb (by simp [z])) (fun z => hb (by simp [z])) q)) hf (Nat.le_refl _) new
    refine ⟨.ref s.heap.objs.size, _, I1, rfl, ⟨_, x, rfl, I.hok.fresh (Nat.le_refl _), rfl, fun ys hy => by rw [I.tuple_inj hy hq]; exact hx⟩, ⟨⟨x', ?_⟩, st'.1.at fun o q => (sb.2 it (Ne.symm hne)).trans q, hne⟩, fun b hb => ?_⟩
    · have e1 : ((i + 1 : Nat) : Int) = (i : Int) + 1 := by omega
      rw [e1]; exact he'
    · have hb' : b < s.heap.objs.size := by
        have e' : b = e ∨ b = it := by simpa using hb
        rcases e' with z | z
        · rw [z]; exact hel
        · rw [z]; exact hil
      rw [upd_ne (Nat.ne_of_lt hb')]
      exact (hf b hb).1
  done := by
    intro X hP hw hK hc i pins s σ H E I hf st hg
    subst hP hw hK
    obtain ⟨⟨old, he⟩, hit, hne⟩ := st
    obtain ⟨xs, hq, hx⟩ := hg
    obtain ⟨its, rv, p, hz⟩ := I.tuple hq
    obtain ⟨f0, f1, f2, f3, f4, f5⟩ := hf it (by simp)
    have hl := rv.length
    exact PySem.W.wpAny_pyNext_enum_endT (I.ok.hd hc) he hit p (by simp; omega) fun h' eb => ⟨rfl, I.turned (t' := s.toks) (fun b o hb q => eb b o hb q) f0 f1 f3 f4 f5⟩
  self := fun A i s Q E st h => let ⟨⟨_, he⟩, _⟩ := st; wpAny_pyIter_enum he h
def iEnumT (K : PySem.W.Frag) (ta : TA) : TI := fun σ H R => ta σ H fun vs H1 => ∃ a xs, vs = [.ref a] ∧ SqT K H1 a xs ∧ R (IteT K a) H1
theorem pi_enumT {X : Cx} {K : PySem.W.Frag} (hK : X.K = K) {e : Expr} {ta : TA} {p pos tpos : Pos} {elts : List Expr} {kk : Nat} (hg : Gl X "enumerate") (hm : X.mg "enumerate" = none) (ha : PA X [e] ta) (hs : starEach [e] X.env = [(false, eval e X.env)] := by rfl) :
    PI X (.Tuple elts kk tpos) (.Call (.Name "enumerate" p) [e] [] pos) (iEnumT K ta) := by
  subst hK
  refine ⟨fun pins s σ H R I h => ?_⟩
  refine Call_ (ld_blt I hg hm boot_enumerate (PyProof.Rows.callWith_type1 (thn (ha.run pos pins s σ H _ I h) fun us s1 ⟨vs, H1, I1, r1, q1⟩ => ?_) hs rfl))
  obtain ⟨a, xs, ex, hq, q⟩ := q1
  subst ex
  cases r1 with
  | cons r rr =>
    cases rr
    cases r
    obtain ⟨its, rv, p', hz⟩ := I1.tuple hq
    have hlt : a < s1.heap.objs.size := by obtain ⟨o, ho, _⟩ := p'; exact Heap.lt_size ho
    refine PySem.W.enum_begins1 (begins_tuple a its.toArray) p' fun h' he hit hsz hk => wpAny_pyIter_enum he ?_
    have I2 : Inv X pins σ H1 { s1 with heap := h' } := I1.kept (t' := s1.toks) hk
    refine ⟨s1.heap.objs.size + 1, [s1.heap.objs.size + 1, s1.heap.objs.size], _, _, H1, rfl, I2, turn_enumT a (s1.heap.objs.size + 1) s1.heap.objs.size (Nat.ne_of_lt hlt) (Nat.ne_of_lt (Nat.lt_succ_of_lt hlt)), ⟨⟨.none, he⟩, ⟨_, hit, rfl, rfl⟩, Nat.succ_ne_self _⟩, fun b hb => ?_, q⟩
    have e' : b = s1.heap.objs.size + 1 ∨ b = s1.heap.objs.size := by simpa using hb
    have hle : s1.heap.objs.size ≤ b := by
      rcases e' with z | z
      · rw [z]; exact Nat.le_add_right _ _
      · rw [z]; exact Nat.le_refl _
    exact I1.fpOk hle (I1.hok.fresh hle)
section
variable {K : PySem.W.Frag} {mg : Str → Option Value} {E : L2.St → XK}
def diET (f : DA) : DI := fun P X ev => f (fun ts ev1 => match ts with
  | [.tup us] => P (enumT us) ev1
  | _ => False) X ev
theorem snd_iEnumT {t : TA} {f : DA} (h : SndA K mg E t f) : SndI K mg E (iEnumT K t) (diET f) := fun D as G ev σ H Z P X R hf hP hX =>
  h D as G ev σ H _ _ X R hf (fun ts ev1 as1 G1 vs H1 p R1 x1 tv => by
    match ts, vs, tv, p with
    | [.tup us], [_], .cons (.tup (a := a) (vs := ws) e b) .nil, p =>
      refine ⟨a, ws, rfl, SqT.le R1.s.sub e, hP _ ev1 as1 G1 _ H1 p R1 x1 ⟨fun as2 G2 H2 i t x ⟨s, _⟩ et => ?_, fun as2 G2 H2 x ⟨s, _⟩ => ?_⟩⟩
      · have sq : SqT K H2 a ws := SqT.le s (SqT.le x.g e)
        obtain ⟨u, hu, rfl⟩ := enumT_get et
        obtain ⟨v, hv, tv1⟩ := b.get hu
        refine ⟨⟨ws, v, sq, hv⟩, fun y H3 yl => ?_⟩
        obtain ⟨Tp, x0, rfl, hT, rfl, q⟩ := yl
        have := q ws sq
        rw [hv] at this
        cases this
        exact .inr ⟨Tp, _, hT, rfl, new_tup (s.free hT) (.cons (.int _) (.cons (tv1.mono x) .nil))⟩
      · exact ⟨ws, SqT.le s (SqT.le x.g e), by rw [enumT_len, b.length]; exact Nat.le_refl _⟩) hX
/-! # a list or a tuple, walked -/
def diLT (f : DE) : DI := fun P X ev => f (fun t ev1 => match t with
  | .lst ts => P ts ev1
  | .tup ts => P ts ev1
  | _ => False) X ev
def iSeq (K : PySem.W.Frag) (tl : TE) : TI := fun σ H R => tl σ H fun x H1 => ∃ a, x = .ref a ∧ (((∃ xs, SqL K H1 a xs) ∧ R (Itl K a) H1) ∨ ((∃ xs, SqT K H1 a xs) ∧ R (Itt K a) H1))
theorem pi_seq {X : Cx} {K : PySem.W.Frag} (hK : X.K = K) {tg l : Expr} {tl : TE} (hl : PE X l tl) : PI X tg l (iSeq K tl) := by
  subst hK
  refine ⟨fun pins s σ H R I h => ?_⟩
  refine thn (hl.run pins s σ H _ I h) fun v s1 ⟨x, H1, I1, r1, q1⟩ => ?_
  obtain ⟨a, e, ⟨⟨xs, hq⟩, q⟩ | ⟨⟨xs, hq⟩, q⟩⟩ := q1
  · subst e
    cases r1
    obtain ⟨its, rv, p, hz⟩ := I1.list hq
    refine wpAny_pyIter_list p.isList ?_
    refine ⟨s1.heap.objs.size, [s1.heap.objs.size], _, _, H1, rfl, I1.kept (t' := s1.toks) fun b o e => Heap.get?_push_of_some _ e, turn_list a _, ⟨_, Heap.get?_push_size _ rfl, rfl, rfl⟩, fun b hb => ?_, q⟩
    have e : b = s1.heap.objs.size := by simpa using hb
    subst e
    exact I1.fpOk (Nat.le_refl _) (I1.hok.fresh (Nat.le_refl _))
  · subst e
    cases r1
    obtain ⟨its, rv, p, hz⟩ := I1.tuple hq
    refine wpAny_pyIter_tuple (show s1.heap.IsTuple a its.toArray from p) ?_
    refine ⟨s1.heap.objs.size, [s1.heap.objs.size], _, _, H1, rfl, I1.kept (t' := s1.toks) fun b o e => Heap.get?_push_of_some _ e, turn_tuple a _, ⟨_, Heap.get?_push_size _ rfl, rfl, rfl⟩, fun b hb => ?_, q⟩
    have e : b = s1.heap.objs.size := by simpa using hb
    subst e
    exact I1.fpOk (Nat.le_refl _) (I1.hok.fresh (Nat.le_refl _))
theorem snd_iSeq {t : TE} {f : DE} (h : Snd K mg E t f) : SndI K mg E (iSeq K t) (diLT f) := fun D as G ev σ H Z P X R hf hP hX =>
  h D as G ev σ H _ _ X R hf (fun r ev1 as1 G1 v H1 p R1 x1 tv => by
    cases tv with
    | lst e b => exact ⟨_, rfl, .inl ⟨⟨_, SqL.of (R1.s.sub _ _ e)⟩, hP _ ev1 as1 G1 _ H1 p R1 x1 (wk_list e b)⟩⟩
    | tup e b => exact ⟨_, rfl, .inr ⟨⟨_, SqT.le R1.s.sub e⟩, hP _ ev1 as1 G1 _ H1 p R1 x1 (wk_tup e b)⟩⟩
    | _ => exact (show False from p).elim) hX
end
end Fu
set_option Elab.async false
set_option linter.all false
set_option maxRecDepth 100000
set_option maxHeartbeats 4000000
namespace Fu
open PySem PySem.Spec PyProof.Rows L2 Hv
/-! # the head's answers of properties and of a star -/
theorem funAt {K : PySem.W.Frag} {a : Addr} {d : He.DefD} (e : fnAt K a = d.val) (c : okAt K a d = true) : ∃ fd, FunD K d.name d.qual d.params d.body d.scope (d.dvs K) (d.kws K) a fd := by
  obtain ⟨kp, c2⟩ := band c
  unfold fnAt at e
  cases q : K.lookup a with
  | none =>
    rw [q] at c2
    cases c2
  | some o =>
    obtain ⟨oc, od, dt, osl⟩ := o
    rw [q] at c2 e
    cases dt with
    | func fd =>
      obtain ⟨n1, n2, n3, n4, n5, n6, n7, n8, n9, n10, n11, n12, n13, n14, n15⟩ := fd
      have e2 : (some (n1, n2, n3, n4, n5, n6, n7, n15) : He.FnW) = some (d.name, d.qual, d.params, .stmts d.body, d.scope, mainGlobals, [], builtinsNs) := e
      simp only [Option.some.injEq, Prod.mk.injEq] at e2
      obtain ⟨h1, h2, h3, h4, h5, h6, h7, h8⟩ := e2
      subst h1 h2 h3 h4 h5 h6 h7 h8
      have c3 : (PySem.W.codeIn K n13 d.qual && (He.dflB K n8 (d.dvs K) && He.kwdB K n9 (d.kws K))) = true := c2
      obtain ⟨k1, k2⟩ := band c3
      obtain ⟨k3, k4⟩ := band k2
      exact ⟨_, ⟨oc, od, n8, n9, n10, n11, n12, n13, n14, osl, rfl, q, k1, He.dflB_ok k3, He.kwdB_ok k4⟩, kp⟩
    | _ => cases c2
theorem saysP {K : PySem.W.Frag} {ps : List ((Str × Str) × He.DefD)} (c : obsP ps K = valP ps) (i : Nat) {p : (Str × Str) × He.DefD} (h : ps[i]? = some p := by rfl) :
    ∃ fd, FunD K p.2.name p.2.qual p.2.params p.2.body p.2.scope (p.2.dvs K) (p.2.kws K) (prA K p.1.1 p.1.2) fd := by
  have e1 : (ps.all fun p => okAt K (prA K p.1.1 p.1.2) p.2) = true := congrArg (fun z : He.AlD => z.1) c
  have e : ps.map (fun p => fnAt K (prA K p.1.1 p.1.2)) = ps.map fun p => p.2.val := congrArg (fun z : He.AlD => z.2) c
  have e2 : (ps.map fun p => fnAt K (prA K p.1.1 p.1.2))[i]? = (ps.map fun p => p.2.val)[i]? := by rw [e]
  rw [List.getElem?_map, List.getElem?_map, h] at e2
  exact funAt (Option.some.inj e2) (List.all_eq_true.mp e1 p (List.mem_of_getElem? h))
theorem prB_ok {K : PySem.W.Frag} {x m : Str} (c : prB K x m = true) : PropOf K (He.ga K x) m (He.ma K (He.ga K x) m) (prA K x m) := by
  obtain ⟨c1, c⟩ := band c
  obtain ⟨c2, c⟩ := band c
  obtain ⟨c3, c4⟩ := band c
  refine ⟨of_decide_eq_true c1, of_decide_eq_true c2, of_decide_eq_true c3, ?_⟩
  split at c4
  · rename_i g r e
    refine ⟨r, ?_⟩
    unfold prA
    rw [e]
  · cases c4
section
variable {K : PySem.W.Frag} {mg : Str → Option Value}
theorem Pl.prop {c m qual : Str} {st : Stmt} {fd : FuncData} (p : Pl K mg c) (h : prB K c m = true) (F : FunD K m qual (defArgs st) (defBody st) (defScope st) [] [] (prA K c m) fd) (b : Binds K fd ["self"] []) : PropDef K mg c m qual st :=
  ⟨_, _, _, _, p.gC, p.cls, prB_ok h, fun_ofD F, b⟩
theorem Pl.star {c qual : Str} {st : Stmt} {fd : FuncData} (p : Pl K mg c) (hm : (He.Fa.meth c "__init__").ok K = true) (F : FunD K "__init__" qual (defArgs st) (defBody st) (defScope st) [] [] (He.ma K (He.ga K c) "__init__") fd) :
    ∃ (C f : Addr) (fd : FuncData), mg c = some (.ref C) ∧ Cls K C ∧ Meth K C "__init__" f ∧ Fun K "__init__" qual st f fd :=
  ⟨_, _, _, p.gC, p.cls, He.meth_ok hm, fun_ofD F⟩
end
end Fu
set_option Elab.async false
set_option linter.all false
set_option maxRecDepth 100000
set_option maxHeartbeats 4000000
namespace Fu
open PySem PySem.Spec PyProof.Rows L2 Hv
/-! # names, widths, states -/
def letters : List Nat := (List.range 26).map (· + 97)
def alnum : List Nat := letters ++ (List.range 10).map (· + 48)
structure NameOk (z : Str) : Prop where
  lo : 1 ≤ (cs z).length
  hi : (cs z).length ≤ 8
  first : ∃ c r, cs z = c :: r ∧ c ∈ letters
  all : ∀ c ∈ cs z, c ∈ alnum
theorem str_ext {a b : Str} (h : cs a = cs b) : a = b := by
  obtain ⟨⟨a⟩⟩ := a
  obtain ⟨⟨b⟩⟩ := b
  have : a = b := h
  subst this
  rfl
theorem cs_app (a b : Str) : cs (a ++ b) = cs a ++ cs b := by
  show (a.cps ++ b.cps).toList = _
  rw [Array.toList_append]
  rfl
theorem cs_len (a : Str) : a.length = (cs a).length := by
  show a.cps.size = _
  simp [cs]
theorem cs_cut (z : Str) (n : Nat) (hn : n ≤ (cs z).length ∨ (cs z).length ≤ n) : cs (cutS z none (some n)) = (cs z).take n := by
  show (((z.cps.toList.drop (HT.sIx z.length 0 none)).take (HT.sIx z.length z.length (some (n : Int)) - HT.sIx z.length 0 none)).toArray).toList = _
  rw [HT.sIx_none, HT.sIx_nat, cs_len]
  simp only [List.drop_zero, Nat.sub_zero, cs]
  rw [List.take_eq_take_iff]
  omega
theorem sub_len {α : Type} [DecidableEq α] : ∀ (l m : List α), l.Nodup → (∀ x ∈ l, x ∈ m) → l.length ≤ m.length
  | [], _, _, _ => Nat.zero_le _
  | a :: l, m, nd, h => by
    have ha := h a List.mem_cons_self
    obtain ⟨n1, n2⟩ := List.nodup_cons.mp nd
    have ih := sub_len l (m.erase a) n2 fun x hx => (List.mem_erase_of_ne (fun e => n1 (by rw [← e]; exact hx))).mpr (h x (List.mem_cons_of_mem _ hx))
    have := List.length_erase_of_mem ha
    have := List.length_pos_of_mem ha
    rw [List.length_cons]
    omega
theorem alnum_nd : alnum.Nodup := by decide
/-- what is near a label -/
def near (z : Str) : List Str := z :: alnum.map fun c => cutS z none (some 7) ++ ⟨#[c]⟩
theorem near_free (z : Str) (F : List Str) (hF : F.length < 36) : ∃ x ∈ near z, x ∉ F := by
  apply Classical.byContradiction
  intro hn
  have h1 : ∀ x ∈ near z, x ∈ F := fun x hx => Classical.byContradiction fun e => hn ⟨x, hx, e⟩
  have nd : (alnum.map fun c => cutS z none (some 7) ++ (⟨#[c]⟩ : Str)).Nodup := by
    rw [List.nodup_iff_pairwise_ne, List.pairwise_map]
    refine List.Pairwise.imp ?_ (List.nodup_iff_pairwise_ne.mp alnum_nd)
    intro a b hab e
    have e2 := congrArg cs e
    rw [cs_app, cs_app] at e2
    exact hab (List.cons.inj (List.append_cancel_left e2)).1
  have := sub_len _ F nd fun x hx => h1 x (List.mem_cons_of_mem _ hx)
  rw [List.length_map] at this
  have e : alnum.length = 36 := by decide
  omega
theorem NameOk.near {z : Str} (h : NameOk z) {x : Str} (hx : x ∈ near z) : NameOk x := by
  rcases List.mem_cons.mp hx with e | hx
  · exact e ▸ h
  · obtain ⟨c, hc, rfl⟩ := List.mem_map.mp hx
    have e : cs (cutS z none (some 7) ++ (⟨#[c]⟩ : Str)) = (cs z).take 7 ++ [c] := by
      have q : cs (cutS z none (some 7)) = (cs z).take 7 := cs_cut z 7 (by omega)
      rw [cs_app, q]
      rfl
    obtain ⟨c0, r, e0, h0⟩ := h.first
    refine ⟨?_, ?_, ?_, fun d hd => ?_⟩
    · rw [e, List.length_append]
      show 1 ≤ _ + 1
      omega
    · rw [e, List.length_append, List.length_take]
      show min 7 _ + 1 ≤ 8
      omega
    · exact ⟨c0, r.take 6 ++ [c], by rw [e, e0]; rfl, h0⟩
    · rw [e] at hd
      rcases List.mem_append.mp hd with q | q
      · exact h.all d (List.mem_of_mem_take q)
      · rw [List.mem_singleton.mp q]
        exact hc

def signs : Str := "abcdefghijklmnopqrstuvwxyz0123456789"
theorem cs_signs : cs signs = alnum := by decide +kernel
theorem cs_signs26 : cs (cutS signs none (some 26)) = letters := by decide +kernel
def wProd (ws : List (Str × Nat)) : Nat := ws.foldl (fun m w => m * w.2) 1
structure WOk (ws : List (Str × Nat)) : Prop where
  lo : 1 ≤ ws.length
  hi : ws.length ≤ 4
  names : ∀ w ∈ ws, NameOk w.1
  sizes : ∀ w ∈ ws, 2 ≤ w.2 ∧ w.2 ≤ 4
  ord : (ws.map (·.1)).Pairwise fun a b => cs a ≤ cs b
  nd : (ws.map (·.1)).Nodup
  prod : wProd ws ≤ 16
theorem sortS_perm (ys : List Str) : (sortS ys).Perm ys := List.mergeSort_perm _ _
theorem sortS_ord (ys : List Str) : (sortS ys).Pairwise fun a b => cs a ≤ cs b := by
  have h := List.pairwise_mergeSort (le := fun a b : Str => decide (cs a ≤ cs b)) (fun a b c h1 h2 => ?_) (fun a b => ?_) ys
  · exact h.imp fun q => of_decide_eq_true q
  · simp only [decide_eq_true_eq] at *
    exact List.le_trans h1 h2
  · simp only [Bool.or_eq_true, decide_eq_true_eq]
    exact List.le_total _ _
theorem wProd_app (ws : List (Str × Nat)) (w : Str × Nat) : wProd (ws ++ [w]) = wProd ws * w.2 := by
  unfold wProd
  rw [List.foldl_append]
  rfl
theorem w_step {room sp wd : Int} (h0 : 1 ≤ sp) (h1 : 2 ≤ wd) (h2 : wd * sp ≤ room) : sp ≤ room / wd ∧ wd * (room / wd) ≤ room :=
  ⟨Int.le_ediv_of_mul_le (by omega) (by rw [Int.mul_comm]; exact h2), Int.mul_ediv_self_le (by omega)⟩
def stStep (fs : List (List Nat)) (n : Nat) : List (List Nat) := fs.flatMap fun s => (List.range n).map fun d => s ++ [d]
def stands (ws : List (Str × Nat)) : List (List Nat) := ws.foldl (fun fs w => stStep fs w.2) [[]]
theorem stands_app (ws : List (Str × Nat)) (w : Str × Nat) : stands (ws ++ [w]) = stStep (stands ws) w.2 := by
  unfold stands
  rw [List.foldl_append]
  rfl
theorem stStep_len (fs : List (List Nat)) (n : Nat) : (stStep fs n).length = fs.length * n := by
  unfold stStep
  induction fs with
  | nil => simp
  | cons a l ih => rw [List.flatMap_cons, List.length_append, ih, List.length_map, List.length_range, List.length_cons, Nat.succ_mul, Nat.add_comm]
theorem stands_len (ws : List (Str × Nat)) : (stands ws).length = wProd ws := by
  have : ∀ (l : List (Str × Nat)) (fs : List (List Nat)) (n : Nat), fs.length = n → (l.foldl (fun fs w => stStep fs w.2) fs).length = l.foldl (fun m w => m * w.2) n := by
    intro l
    induction l with
    | nil => exact fun fs n h => h
    | cons a l ih => exact fun fs n h => ih _ _ (by rw [stStep_len, h])
  exact this ws [[]] 1 rfl
theorem stands_each (ws : List (Str × Nat)) : ∀ s ∈ stands ws, s.length = ws.length := by
  have : ∀ (l : List (Str × Nat)) (fs : List (List Nat)) (n : Nat), (∀ s ∈ fs, s.length = n) → ∀ s ∈ l.foldl (fun fs w => stStep fs w.2) fs, s.length = n + l.length := by
    intro l
    induction l with
    | nil => exact fun fs n h s hs => h s hs
    | cons a l ih =>
      intro fs n h s hs
      have := ih (stStep fs a.2) (n + 1) (fun t ht => ?_) s hs
      · rw [this, List.length_cons]; omega
      · obtain ⟨u, hu, ht⟩ := List.mem_flatMap.mp ht
        obtain ⟨d, _, rfl⟩ := List.mem_map.mp ht
        rw [List.length_append, h u hu]
        rfl
  intro s hs
  have := this ws [[]] 0 (by simp) s hs
  omega
theorem perm_cons_erase {α : Type} : ∀ {l : List α} {n : Nat} {x : α}, l[n]? = some x → (x :: l.eraseIdx n).Perm l
  | y :: l, 0, x, h => by cases h; exact List.Perm.refl _
  | y :: l, n + 1, x, h => by
    have ih := perm_cons_erase (l := l) (n := n) (x := x) (by simpa using h)
    exact (List.Perm.swap y x (l.eraseIdx n)).trans (ih.cons y)
theorem perm_pop {α : Type} {ws rest found : List α} {n : Nat} {x : α} (hp : (rest ++ found).Perm ws) (hx : rest[n]? = some x) : (rest.eraseIdx n ++ (found ++ [x])).Perm ws := by
  refine List.Perm.trans ?_ hp
  have h2 : (x :: rest.eraseIdx n).Perm rest := perm_cons_erase hx
  refine List.Perm.trans ?_ (h2.append_right found)
  rw [List.cons_append]
  rw [← List.append_assoc]
  exact List.perm_append_singleton _ _
def nameB (z : Str) : Bool := decide (1 ≤ z.length) && decide (z.length ≤ 8) && (match cs z with | [] => false | c :: _ => decide (c ∈ letters)) && (cs z).all fun c => decide (c ∈ alnum)
theorem letters_cs : cs "abcdefghijklmnopqrstuvwxyz" = letters := by decide +kernel
theorem alnum_cs : cs "abcdefghijklmnopqrstuvwxyz0123456789" = alnum := by decide +kernel
theorem name_long {z : Str} (h : ¬ z.length ≤ 8) : nameB z = false := by unfold nameB; simp [h]
theorem name_short {z : Str} (h : ¬ 1 ≤ z.length) : nameB z = false := by unfold nameB; simp [h]
theorem name_first {z : Str} {c : Nat} {r : List Nat} (e : cs z = c :: r) (h : ¬ c ∈ cs "abcdefghijklmnopqrstuvwxyz") : nameB z = false := by
  rw [letters_cs] at h
  unfold nameB
  rw [e]
  simp [h]
theorem name_mid {z : Str} {c : Nat} {r : List Nat} (e : cs z = c :: r) (h1 : 1 ≤ z.length) (h8 : z.length ≤ 8) (h : c ∈ cs "abcdefghijklmnopqrstuvwxyz") : nameB z = ((cs z).map fun c => decide (c ∈ alnum)).all id := by
  rw [letters_cs] at h
  unfold nameB
  rw [e]
  simp [h, h1, h8]
end Fu
set_option Elab.async false
set_option linter.all false
set_option maxRecDepth 100000
set_option maxHeartbeats 4000000
namespace Fu
open PySem PySem.Spec PyProof.Rows L2 Hv
/-! # data of seven kinds; acts -/
inductive Kd (w : Nat) : T → Prop
  | non : Kd w .non
  | bl (b : Bool) : Kd w (.bl b)
  | int (i : Int) : Kd w (.int i)
  | str (z : Str) : z.length ≤ w → Kd w (.str z)
  | lst (ts : List T) : Kd w (.lst ts)
  | tup (ts : List T) : Kd w (.tup ts)
  | dct (kts : List (Key × T)) : Kd w (.dct kts)
theorem Tx.kd {n w : Nat} {t : T} (h : Tx n w t) : Kd w t := by
  obtain ⟨d, e, f⟩ := h
  cases t with
  | non => exact .non
  | bl b => exact .bl b
  | int i => exact .int i
  | str z =>
    have e : some (PyData.str z) = some d := e
    cases e
    exact .str z f.wt
  | lst ts => exact .lst ts
  | tup ts => exact .tup ts
  | dct kts => exact .dct kts
  | _ => simp [toQ] at e
theorem toQs_items {n w : Nat} : ∀ {ts : List T} {ds : List PyData}, toQs ts = some ds → PyData.leavesShortAll 64 ds = true → PyData.showableAll ds = true → PyData.depthAll ds ≤ n → PyData.weightAll ds ≤ w → ∀ t ∈ ts, Tx n w t
  | [], _, _, _, _, _, _ => fun _ h => nomatch h
  | t :: ts, ds, e, h1, h2, h3, h4 => by
    rw [toQs] at e
    split at e
    · rename_i d ds' e1 e2
      cases e
      simp only [PyData.leavesShortAll, Bool.and_eq_true] at h1
      simp only [PyData.showableAll, Bool.and_eq_true] at h2
      simp only [PyData.depthAll] at h3
      simp only [PyData.weightAll] at h4
      refine List.forall_mem_cons.mpr ⟨⟨d, e1, h1.1, h2.1, by omega, by omega⟩, toQs_items e2 h1.2 h2.2 (by omega) (by omega)⟩
    · cases e
theorem Tx.tupI {n w : Nat} {ts : List T} (h : Tx n w (.tup ts)) : ∀ t ∈ ts, Tx n w t := by
  obtain ⟨d, e, f⟩ := h
  rw [toQ, Option.map_eq_some_iff] at e
  obtain ⟨ds, e, rfl⟩ := e
  obtain ⟨a, b, c, d⟩ := f
  simp only [PyData.depth] at c
  exact toQs_items e a b (by omega) d
theorem Tx.lstI {n w : Nat} {ts : List T} (h : Tx n w (.lst ts)) : ∀ t ∈ ts, Tx n w t := by
  obtain ⟨d, e, f⟩ := h
  rw [toQ, Option.map_eq_some_iff] at e
  obtain ⟨ds, e, rfl⟩ := e
  obtain ⟨a, b, c, d⟩ := f
  simp only [PyData.depth] at c
  exact toQs_items e a b (by omega) d
theorem tx_str {z : Str} {w : Nat} (hc : ∀ c ∈ cs z, c < 16 ^ 8) (hl : z.length ≤ w) : Tx 0 w (.str z) :=
  ⟨_, rfl, ⟨by simp only [PyData.leavesShort, List.all_eq_true]; exact fun c h => decide_eq_true (hc c h), rfl, Nat.le_refl _, hl⟩⟩
theorem tx_lit {n w : Nat} {t : T} (d : PyData) (e : toQ t = some d) (h : (d.leavesShort 64 && d.showable && decide (d.depth ≤ n) && decide (d.weight ≤ w)) = true) : Tx n w t := by
  simp only [Bool.and_eq_true, decide_eq_true_eq] at h
  exact ⟨d, e, h.1.1.1, h.1.1.2, h.1.2, h.2⟩
/-- the size of a tuple's text is that of its parts -/
theorem tup_w {n w m : Nat} {ts : List T} (h : ∀ t ∈ ts, Tx n w t) (hm : ts.length ≤ m) : Tx (n + 1) (m * (w + 1)) (.tup ts) := (Tx.tup h).le (Nat.le_refl _) (Nat.mul_le_mul_right _ hm)
theorem lst_w {n w m : Nat} {ts : List T} (h : ∀ t ∈ ts, Tx n w t) (hm : ts.length ≤ m) : Tx (n + 1) (m * (w + 1)) (.lst ts) := (Tx.lst h).le (Nat.le_refl _) (Nat.mul_le_mul_right _ hm)
/-! ## names, parts below a limit, acts -/
def nameT : T → Bool
  | .str z => nameB z
  | _ => false
def belowT (m : Int) : T → Bool
  | .int i => decide (0 ≤ i) && decide (i < m)
  | _ => false
def plainL : List Str := ["look", "inner", "swallow", "answer", "skip", "fail"]
def actB : T → Bool
  | .tup (.str z :: r) =>
    if z = "lend" then (match r with
      | [a, b] => nameT a && belowT 4 b
      | _ => false)
    else if z = "door" then (match r with
      | [a] => nameT a
      | _ => false)
    else decide (r.length = 0) && decide (z ∈ plainL)
  | _ => false
/-- the items of a row -/
def rowI : T → Option (List T)
  | .lst ts => some ts
  | .tup ts => some ts
  | _ => none
def rowB (t : T) : Bool := match rowI t with
  | some ts => ts.all actB
  | none => false
def rowL (t : T) : T := .lst ((rowI t).getD [])
/-- the first wrong row -/
def badI : List T → Option Nat
  | [] => none
  | t :: ts => if rowB t = true then (badI ts).map (· + 1) else some 0
theorem badI_none {ts : List T} (h : badI ts = none) : ∀ t ∈ ts, rowB t = true := by
  induction ts with
  | nil => exact fun _ h => nomatch h
  | cons t ts ih =>
    unfold badI at h
    split at h
    · rename_i ht
      exact List.forall_mem_cons.mpr ⟨ht, ih (by simpa using h)⟩
    · cases h
theorem badI_some : ∀ {ts : List T} {i : Nat}, badI ts = some i → (∃ t, ts[i]? = some t ∧ rowB t = false) ∧ ∀ j < i, ∀ t, ts[j]? = some t → rowB t = true
  | [], _, h => by cases h
  | t :: ts, i, h => by
    unfold badI at h
    split at h
    · rename_i ht
      obtain ⟨k, hk, rfl⟩ := Option.map_eq_some_iff.mp h
      obtain ⟨h1, h2⟩ := badI_some hk
      refine ⟨by simpa using h1, fun j hj u hu => ?_⟩
      cases j with
      | zero => simp at hu; rw [← hu]; exact ht
      | succ j => exact h2 j (by omega) u (by simpa using hu)
    · rename_i ht
      cases h
      exact ⟨⟨t, rfl, by simpa using ht⟩, fun j hj => absurd hj (by omega)⟩
end Fu
set_option Elab.async false
set_option linter.all false
set_option maxRecDepth 100000
set_option maxHeartbeats 4000000
namespace Fu
open PySem PySem.Spec PyProof.Rows L2 Hv
abbrev s_is_integer : Stmt := top 15
abbrev N_is_integer : List Str := ["value"]
abbrev P_is_integer : List Str := ["value"]
theorem sc_is_integer : FnScope N_is_integer P_is_integer (defScope s_is_integer) := ⟨rfl, rfl, rfl, by decide +kernel, rfl, by decide +kernel, by decide +kernel⟩

abbrev s_is_name : Stmt := top 17
abbrev N_is_name : List Str := ["value", "sign"]
abbrev P_is_name : List Str := ["value"]
theorem sc_is_name : FnScope N_is_name P_is_name (defScope s_is_name) := ⟨rfl, rfl, rfl, by decide +kernel, rfl, by decide +kernel, by decide +kernel⟩

abbrev s_is_list : Stmt := top 19
abbrev N_is_list : List Str := ["value"]
abbrev P_is_list : List Str := ["value"]
theorem sc_is_list : FnScope N_is_list P_is_list (defScope s_is_list) := ⟨rfl, rfl, rfl, by decide +kernel, rfl, by decide +kernel, by decide +kernel⟩

abbrev s_Script_rows : Stmt := inClass (top 27) 1
abbrev N_Script_rows : List Str := ["self", "row"]
abbrev P_Script_rows : List Str := ["self"]
theorem sc_Script_rows : FnScope N_Script_rows P_Script_rows (defScope s_Script_rows) := ⟨rfl, rfl, rfl, by decide +kernel, rfl, by decide +kernel, by decide +kernel⟩

abbrev s_Script_cost : Stmt := inClass (top 27) 2
abbrev N_Script_cost : List Str := ["self", "row"]
abbrev P_Script_cost : List Str := ["self"]
theorem sc_Script_cost : FnScope N_Script_cost P_Script_cost (defScope s_Script_cost) := ⟨rfl, rfl, rfl, by decide +kernel, rfl, by decide +kernel, by decide +kernel⟩

abbrev s_Script_len : Stmt := inClass (top 27) 3
abbrev N_Script_len : List Str := ["self"]
abbrev P_Script_len : List Str := ["self"]
theorem sc_Script_len : FnScope N_Script_len P_Script_len (defScope s_Script_len) := ⟨rfl, rfl, rfl, by decide +kernel, rfl, by decide +kernel, by decide +kernel⟩

abbrev s_pot : Stmt := top 29
abbrev N_pot : List Str := ["_law_script", "_law_k", "_law_cell"]
abbrev P_pot : List Str := ["_law_script", "_law_k"]
theorem sc_pot : FnScope N_pot P_pot (defScope s_pot) := ⟨rfl, rfl, rfl, by decide +kernel, rfl, by decide +kernel, by decide +kernel⟩

abbrev s_draw : Stmt := top 30
abbrev N_draw : List Str := ["_law_pot_here", "_law_sides", "_law_digit"]
abbrev P_draw : List Str := ["_law_pot_here", "_law_sides"]
theorem sc_draw : FnScope N_draw P_draw (defScope s_draw) := ⟨rfl, rfl, rfl, by decide +kernel, rfl, by decide +kernel, by decide +kernel⟩

abbrev s_is_label : Stmt := top 37
abbrev N_is_label : List Str := ["_law_some", "_law_signs", "_law_sign"]
abbrev P_is_label : List Str := ["_law_some"]
theorem sc_is_label : FnScope N_is_label P_is_label (defScope s_is_label) := ⟨rfl, rfl, rfl, by decide +kernel, rfl, by decide +kernel, by decide +kernel⟩

abbrev s_is_count : Stmt := top 16
abbrev N_is_count : List Str := ["value"]
abbrev P_is_count : List Str := ["value"]
theorem sc_is_count : FnScope N_is_count P_is_count (defScope s_is_count) := ⟨rfl, rfl, rfl, by decide +kernel, rfl, by decide +kernel, by decide +kernel⟩

abbrev s_pick : Stmt := top 31
abbrev N_pick : List Str := ["_law_pot_here", "_law_some"]
abbrev P_pick : List Str := ["_law_pot_here", "_law_some"]
theorem sc_pick : FnScope N_pick P_pick (defScope s_pick) := ⟨rfl, rfl, rfl, by decide +kernel, rfl, by decide +kernel, by decide +kernel⟩

abbrev s_l_is_act : Stmt := top 38
abbrev N_l_is_act : List Str := ["_law_some"]
abbrev P_l_is_act : List Str := ["_law_some"]
theorem sc_l_is_act : FnScope N_l_is_act P_l_is_act (defScope s_l_is_act) := ⟨rfl, rfl, rfl, by decide +kernel, rfl, by decide +kernel, by decide +kernel⟩

abbrev s_is_below : Stmt := top 18
abbrev N_is_below : List Str := ["value", "limit"]
abbrev P_is_below : List Str := ["value", "limit"]
theorem sc_is_below : FnScope N_is_below P_is_below (defScope s_is_below) := ⟨rfl, rfl, rfl, by decide +kernel, rfl, by decide +kernel, by decide +kernel⟩

abbrev s_label : Stmt := top 32
abbrev N_label : List Str := ["_law_pot_here", "_law_signs", "_law_size", "_law_turn"]
abbrev P_label : List Str := ["_law_pot_here"]
theorem sc_label : FnScope N_label P_label (defScope s_label) := ⟨rfl, rfl, rfl, by decide +kernel, rfl, by decide +kernel, by decide +kernel⟩

abbrev s_odd_digit : Stmt := top 34
abbrev N_odd_digit : List Str := ["_law_pot_here"]
abbrev P_odd_digit : List Str := ["_law_pot_here"]
theorem sc_odd_digit : FnScope N_odd_digit P_odd_digit (defScope s_odd_digit) := ⟨rfl, rfl, rfl, by decide +kernel, rfl, by decide +kernel, by decide +kernel⟩

abbrev s_is_act : Stmt := top 26
abbrev N_is_act : List Str := ["value"]
abbrev P_is_act : List Str := ["value"]
theorem sc_is_act : FnScope N_is_act P_is_act (defScope s_is_act) := ⟨rfl, rfl, rfl, by decide +kernel, rfl, by decide +kernel, by decide +kernel⟩

abbrev s_odd_label : Stmt := top 33
abbrev N_odd_label : List Str := ["_law_pot_here", "_law_label_here", "_law_at", "_law_sign", "_law_way"]
abbrev P_odd_label : List Str := ["_law_pot_here"]
theorem sc_odd_label : FnScope N_odd_label P_odd_label (defScope s_odd_label) := ⟨rfl, rfl, rfl, by decide +kernel, rfl, by decide +kernel, by decide +kernel⟩

abbrev s_act : Stmt := top 35
abbrev N_act : List Str := ["_law_pot_here", "_law_plain", "_law_way"]
abbrev P_act : List Str := ["_law_pot_here"]
theorem sc_act : FnScope N_act P_act (defScope s_act) := ⟨rfl, rfl, rfl, by decide +kernel, rfl, by decide +kernel, by decide +kernel⟩

abbrev s_Script_init : Stmt := inClass (top 27) 0
abbrev N_Script_init : List Str := ["self", "rows", "position", "row", "act"]
abbrev P_Script_init : List Str := ["self", "rows"]
theorem sc_Script_init : FnScope N_Script_init P_Script_init (defScope s_Script_init) := ⟨rfl, rfl, rfl, by decide +kernel, rfl, by decide +kernel, by decide +kernel⟩

abbrev s_spoilt : Stmt := top 36
abbrev N_spoilt : List Str := ["_law_pot_here", "_law_act_here", "_law_way", "_law_at", "_law_word", "_law_sign", "_law_spot"]
abbrev P_spoilt : List Str := ["_law_pot_here", "_law_act_here"]
theorem sc_spoilt : FnScope N_spoilt P_spoilt (defScope s_spoilt) := ⟨rfl, rfl, rfl, by decide +kernel, rfl, by decide +kernel, by decide +kernel⟩

abbrev s_told : Stmt := top 39
abbrev N_told : List Str := ["_law_one", "_law_two", "_law_three", "_law_found", "_law_refused", "e"]
abbrev P_told : List Str := ["_law_one", "_law_two", "_law_three"]
theorem sc_told : FnScope N_told P_told (defScope s_told) := ⟨rfl, rfl, rfl, by decide +kernel, rfl, by decide +kernel, by decide +kernel⟩

abbrev s_rows_right : Stmt := top 40
abbrev N_rows_right : List Str := ["_law_pot_here", "_law_some", "_law_turns", "_law_at", "_law_spot", "_law_shown", "_law_due", "_law_odd", "_law_near", "_law_row", "_law_turn"]
abbrev P_rows_right : List Str := ["_law_pot_here", "_law_some"]
theorem sc_rows_right : FnScope N_rows_right P_rows_right (defScope s_rows_right) := ⟨rfl, rfl, rfl, by decide +kernel, rfl, by decide +kernel, by decide +kernel⟩

abbrev s_right : Stmt := top 41
abbrev N_right : List Str := ["_law_pot_here", "_law_turn", "_law_some", "_law_shown", "_law_due"]
abbrev P_right : List Str := ["_law_pot_here"]
theorem sc_right : FnScope N_right P_right (defScope s_right) := ⟨rfl, rfl, rfl, by decide +kernel, rfl, by decide +kernel, by decide +kernel⟩

abbrev s_law : Stmt := top 42
abbrev N_law : List Str := ["_law_script", "_law_k"]
abbrev P_law : List Str := ["_law_script"]
theorem sc_law : FnScope N_law P_law (defScope s_law) := ⟨rfl, rfl, rfl, by decide +kernel, rfl, by decide +kernel, by decide +kernel⟩

def qIs (g c : Tag) : Option Bool := (tIs.find? fun p => decide (p.1 = g ∧ p.2.1 = c)).map (·.2.2)
theorem is_NoneType_bool : qIs (.inl "NoneType") (.inl "bool") = some false := by decide +kernel
theorem is_NoneType_int : qIs (.inl "NoneType") (.inl "int") = some false := by decide +kernel
theorem is_NoneType_list : qIs (.inl "NoneType") (.inl "list") = some false := by decide +kernel
theorem is_NoneType_str : qIs (.inl "NoneType") (.inl "str") = some false := by decide +kernel
theorem is_NoneType_tuple : qIs (.inl "NoneType") (.inl "tuple") = some false := by decide +kernel
theorem is_bool_bool : qIs (.inl "bool") (.inl "bool") = some true := by decide +kernel
theorem is_bool_int : qIs (.inl "bool") (.inl "int") = some true := by decide +kernel
theorem is_bool_list : qIs (.inl "bool") (.inl "list") = some false := by decide +kernel
theorem is_bool_str : qIs (.inl "bool") (.inl "str") = some false := by decide +kernel
theorem is_bool_tuple : qIs (.inl "bool") (.inl "tuple") = some false := by decide +kernel
theorem is_dict_bool : qIs (.inl "dict") (.inl "bool") = some false := by decide +kernel
theorem is_dict_int : qIs (.inl "dict") (.inl "int") = some false := by decide +kernel
theorem is_dict_list : qIs (.inl "dict") (.inl "list") = some false := by decide +kernel
theorem is_dict_str : qIs (.inl "dict") (.inl "str") = some false := by decide +kernel
theorem is_dict_tuple : qIs (.inl "dict") (.inl "tuple") = some false := by decide +kernel
theorem is_int_bool : qIs (.inl "int") (.inl "bool") = some false := by decide +kernel
theorem is_int_int : qIs (.inl "int") (.inl "int") = some true := by decide +kernel
theorem is_int_list : qIs (.inl "int") (.inl "list") = some false := by decide +kernel
theorem is_int_str : qIs (.inl "int") (.inl "str") = some false := by decide +kernel
theorem is_int_tuple : qIs (.inl "int") (.inl "tuple") = some false := by decide +kernel
theorem is_list_bool : qIs (.inl "list") (.inl "bool") = some false := by decide +kernel
theorem is_list_int : qIs (.inl "list") (.inl "int") = some false := by decide +kernel
theorem is_list_list : qIs (.inl "list") (.inl "list") = some true := by decide +kernel
theorem is_list_str : qIs (.inl "list") (.inl "str") = some false := by decide +kernel
theorem is_list_tuple : qIs (.inl "list") (.inl "tuple") = some false := by decide +kernel
theorem is_str_bool : qIs (.inl "str") (.inl "bool") = some false := by decide +kernel
theorem is_str_int : qIs (.inl "str") (.inl "int") = some false := by decide +kernel
theorem is_str_list : qIs (.inl "str") (.inl "list") = some false := by decide +kernel
theorem is_str_str : qIs (.inl "str") (.inl "str") = some true := by decide +kernel
theorem is_str_tuple : qIs (.inl "str") (.inl "tuple") = some false := by decide +kernel
theorem is_tuple_bool : qIs (.inl "tuple") (.inl "bool") = some false := by decide +kernel
theorem is_tuple_int : qIs (.inl "tuple") (.inl "int") = some false := by decide +kernel
theorem is_tuple_list : qIs (.inl "tuple") (.inl "list") = some false := by decide +kernel
theorem is_tuple_str : qIs (.inl "tuple") (.inl "str") = some false := by decide +kernel
theorem is_tuple_tuple : qIs (.inl "tuple") (.inl "tuple") = some true := by decide +kernel
def qIx (x : Str) (c : Tag) : Option Bool := (tIx.find? fun p => decide (p.1 = x ∧ p.2.1 = c)).map (·.2.2)
theorem ix_InvalidScript_HookError : qIx "InvalidScript" (.inr "HookError") = some true := by decide +kernel
theorem ix_InvalidScript_StateError : qIx "InvalidScript" (.inr "StateError") = some false := by decide +kernel
def qCc (c f : Str) : Option T := (tCc.find? fun p => decide (p.1 = (c, f))).map (·.2)
theorem cc_Boxes_MOST_VALUES : qCc "Boxes" "MOST_VALUES" = some (.int 4) := by rfl
def qFl (c : Str) : List Str := ((tFl.find? fun p => decide (p.1 = c)).map (·.2)).getD []
theorem fl_Script : qFl "Script" = (["_rows"] : List Str) := by decide +kernel
def qHd_InvalidScript (x : Str) : Option Bool := (tHd_InvalidScript.find? fun p => decide (p.1 = x)).map (·.2)
theorem hd_InvalidScript_InvalidScript : qHd_InvalidScript "InvalidScript" = some true := by decide +kernel
def tXf : List (Str × List Str) := [(("InvalidScript" : Str), (["position"] : List Str))]
def qXf (c : Str) : List Str := ((tXf.find? fun p => decide (p.1 = c)).map (·.2)).getD []
theorem xf_InvalidScript : qXf "InvalidScript" = (["position"] : List Str) := by decide +kernel
structure Blt (mg : Str → Option Value) : Prop where
  abs : mg "abs" = none
  all : mg "all" = none
  bool : mg "bool" = none
  divmod : mg "divmod" = none
  enumerate : mg "enumerate" = none
  int : mg "int" = none
  isinstance : mg "isinstance" = none
  len : mg "len" = none
  list : mg "list" = none
  max : mg "max" = none
  min : mg "min" = none
  range : mg "range" = none
  repr : mg "repr" = none
  str : mg "str" = none
  sum : mg "sum" = none
  tuple : mg "tuple" = none
structure Facts (P : Program) (w : World) (K : PySem.W.Frag) (mg : Str → Option Value) (base : Heap) : Prop where
  B : Blt mg
  T_is_integer : TopDef K mg "is_integer" s_is_integer P_is_integer
  T_is_name : TopDef K mg "is_name" s_is_name P_is_name
  T_is_list : TopDef K mg "is_list" s_is_list P_is_list
  M_Script_rows : MetDef K mg "Script" "rows" "Script.rows" s_Script_rows P_Script_rows
  M_Script_cost : PropDef K mg "Script" "cost" "Script.cost" s_Script_cost
  M_Script_len : MetDef K mg "Script" "__len__" "Script.__len__" s_Script_len P_Script_len
  T_pot : TopDef K mg "_law_pot" s_pot P_pot
  T_draw : TopDef K mg "_law_draw" s_draw P_draw
  T_is_label : TopDef K mg "_law_is_label" s_is_label P_is_label
  T_is_count : TopDef K mg "is_count" s_is_count P_is_count
  T_pick : TopDef K mg "_law_pick" s_pick P_pick
  T_l_is_act : TopDef K mg "_law_is_act" s_l_is_act P_l_is_act
  T_is_below : TopDef K mg "is_below" s_is_below P_is_below
  T_label : TopDef K mg "_law_label" s_label P_label
  T_odd_digit : TopDef K mg "_law_odd_digit" s_odd_digit P_odd_digit
  T_is_act : TopDef K mg "is_act" s_is_act P_is_act
  T_odd_label : TopDef K mg "_law_odd_label" s_odd_label P_odd_label
  T_act : TopDef K mg "_law_act" s_act P_act
  M_Script_init : MetDefS K mg "Script" "Script.__init__" "rows" s_Script_init
  T_spoilt : TopDef K mg "_law_spoilt" s_spoilt P_spoilt
  T_told : TopDef K mg "_law_told" s_told P_told
  T_rows_right : TopDef K mg "_law_rows_right" s_rows_right P_rows_right
  T_right : TopDef K mg "_law_right" s_right P_right
  T_law : TopDef K mg "law" s_law P_law
  x_InvalidScript : ∃ C, Hv.X1 P w K mg base "InvalidScript" C "position"
  g_Boxes : ∃ C, mg "Boxes" = some (.ref C)
  g_HookError : ∃ C, mg "HookError" = some (.ref C)
  g_StateError : ∃ C, mg "StateError" = some (.ref C)
  k_LETTERS : ∃ t, mg "LETTERS" = some (.str "abcdefghijklmnopqrstuvwxyz" t)
  k_LETTERS_AND_DIGITS : ∃ t, mg "LETTERS_AND_DIGITS" = some (.str "abcdefghijklmnopqrstuvwxyz0123456789" t)
  k_LONGEST_NAME : ∃ t, mg "LONGEST_NAME" = some (.int (8) t)
  kt_PLAIN_ACTS : CTup K mg "PLAIN_ACTS" ["look", "inner", "swallow", "answer", "skip", "fail"]
  sm : Sm K
  is : IsF K mg qIs
  ix : IxF K mg qIx
  cc : CcF K mg qCc
  fl : FlF K mg qFl
  mk_Script : MkF K mg "Script"
  mc_Script : MkC K mg "Script"
  hd_InvalidScript : ∀ C, mg "InvalidScript" = some (.ref C) → HdF K mg (.ref C) qHd_InvalidScript
  xf : XfF K mg qXf

/-- the pot in the cell k -/
def PotAt (st : Store) (k : Nat) : Prop := ∃ b c : Int, st[k]? = some (false, .lst [.int b, .int c]) ∧ 0 ≤ c ∧ c < 2147483648
/-- .. another pot -/
def potSt (st : Store) (k : Nat) (b c : Int) : Store := st.set k (false, .lst [.int b, .int c])
theorem potSt_len {st : Store} {k : Nat} {b c : Int} : (potSt st k b c).length = st.length := List.length_set
theorem potSt_set {st : Store} {k : Nat} {b c b' c' : Int} : potSt (potSt st k b c) k b' c' = potSt st k b' c' := List.set_set _
theorem potSt_at {st : Store} {k : Nat} {b c : Int} (h : k < st.length) (c0 : 0 ≤ c) (c1 : c < 2147483648) : PotAt (potSt st k b c) k := ⟨b, c, List.getElem?_set_self h, c0, c1⟩
theorem PotAt.lt {st : Store} {k : Nat} (h : PotAt st k) : k < st.length := by
  obtain ⟨b, c, e, _⟩ := h
  exact (List.getElem?_eq_some_iff.mp e).1
theorem PotAt.self {st : Store} {k : Nat} (h : PotAt st k) : ∃ b c, st = potSt st k b c ∧ 0 ≤ c ∧ c < 2147483648 := by
  obtain ⟨b, c, e, c0, c1⟩ := h
  refine ⟨b, c, ?_, c0, c1⟩
  obtain ⟨hl, e2⟩ := List.getElem?_eq_some_iff.mp e
  unfold potSt
  rw [← e2, List.set_getElem_self]
end Fu
set_option Elab.async false
set_option linter.all false
set_option maxRecDepth 100000
set_option maxHeartbeats 4000000
namespace Fu
open PySem PySem.Spec PyProof.Rows L2 Hv
local macro_rules | `(tactic| fail "wp d") => `(tactic| dsimp only [dMk1, dMk2, dMk2r, dMk0, dXv, dIsV, dDisp, dTryC, clAs, clO, clNil, dRaise0, dIsiT, dIsXT, gReprQ, deref_ev, dMakeS, dProp, dRevT, dUp, consO, dFor_eq, dLc_eq, dDc_eq, dLc2_eq, deref_non, deref_bl, deref_int, deref_str, deref_ty, deref_lst, deref_tup, deref_dct, deref_ins, deref_glob, deref_scr, deref_exc, deref_cell, truth_non, truth_bl, truth_int, truth_lst, truth_tup, truth_str, tagOf_non, tagOf_bl, tagOf_int, tagOf_str, tagOf_lst, tagOf_scr, tagOf_tup, tagOf_dct, tagOf_ins, toKey_int, toKey_str, isNon_non, isNon_bl, isNon_int, isNon_str, isNon_ty, isNon_lst, isNon_tup, isNon_dct, isNon_ins, isNon_glob, isNon_scr, isNon_exc, bodyS, startE, dSeq, dNext, dIfS, dRet, dRetO, dRetV, dRetN, dDrop, dBreak, dCont, dTest, dTru, dAnd, dOr, dNot, dAndV, dOrV, dNotV, dIfE, dChain, xC1, xC2, dOp, dC, dVar, xVar, takeV, om, omP, oV, xV, okSl, oE, daNil, daCons, drNil, drCons, dLst, dTup, dDct, vw, vws, look, dAsg, dgName, dgNil, dgCons, dgTup, dgSub, dSetO, dSetL, dPar, dPar3, dParOO, dParOF, dParFO, dYes, dNeg, dDGet, dDIn, dSl, dpNo, dpSome, dFld, dSFld, dCon, dCc, xFmt, fmtT, xFstr, jNil, jCons, joinT, seqT, xCallF, xCallO, xMeth, xMethO, Rt.val, Rt.isOw, dMake, dBox, dRaise1, dRaise2, dAppend, dExtend, dPopAt, dPop, dTmpAppend, dTmpPop, dDPut, dDPop1, xLk, xLkLc, lkM, lkOn, lkOff, lkOk, lkX, dIsi, xSort, sortP, dInO, dLenO, dEqO, dXf, dIsX, daKw, seeI, seeL, upto, uptoT, cellT, ansB, ansI, gI0, gIC, gSub', gFdiv, gMod, gPow, gLt, gLe, gGt, gGe, xAdd, addT, xMul, mulT, xEq, xIn, negB, inT, sign1_eq, gIs, gIsNot, xIx, ixT, ixC, gSlS, xSlL, slLT, gSlT, xF1, lenT, gAbs, gMax2, gMin2, int1T, gDivmod, bool1T, str1T, gAll, gAny, gSum, listT, tupleT, dictT, gRepr, gEqK, gAddL, wiped, wipeE, unw, unE, diL, diT, diS, diR1, diR2, diE, diK, diI, diV, xZ, zipO, diZK, diZV, zMapC, zMapN, zAppC, zAppN, zRepS, zRep0, zGet0, zGetS, zSet0, zSetS, zLenN, zLenC, zOMap, zONone, Nat.reduceAdd, Nat.reduceSub])
local macro_rules | `(tactic| fail "wp s") => `(tactic| simp only [gP_nil, gP_cons, is_NoneType_bool, is_NoneType_int, is_NoneType_list, is_NoneType_str, is_NoneType_tuple, is_bool_bool, is_bool_int, is_bool_list, is_bool_str, is_bool_tuple, is_dict_bool, is_dict_int, is_dict_list, is_dict_str, is_dict_tuple, is_int_bool, is_int_int, is_int_list, is_int_str, is_int_tuple, is_list_bool, is_list_int, is_list_list, is_list_str, is_list_tuple, is_str_bool, is_str_int, is_str_list, is_str_str, is_str_tuple, is_tuple_bool, is_tuple_int, is_tuple_list, is_tuple_str, is_tuple_tuple, ix_InvalidScript_HookError, ix_InvalidScript_StateError, cc_Boxes_MOST_VALUES, fl_Script, hd_InvalidScript_InvalidScript, xf_InvalidScript, ex_map, eqT_int, eqT_bl, eqT_str, inL_str, inL_strN, sign_inj, Nat.reduceAdd, Nat.reduceSub, Nat.reduceLeDiff, Nat.reduceLT, Nat.zero_lt_succ, Nat.succ_pos, if_true, if_false, Bool.false_eq_true, ite_true, ite_false, true_and, and_true, decide_eq_true_eq, decide_true, decide_false, exists_eq_left', exists_eq_left, T.str.injEq, T.int.injEq, T.bl.injEq, T.lst.injEq, T.tup.injEq, T.dct.injEq, T.cell.injEq, T.ins.injEq, exists_const, exists_and_left, Bool.not_true, Bool.not_false, eq_self, reduceIte, reduceCtorEq, Bool.not_eq_true', Bool.true_eq_false, and_false, false_and, exists_false, or_false, false_or, Option.some.injEq, List.getElem?_set_self, List.set_set, List.length_set, atI0, atI1, atI2, ixN0, ixN1, List.append_assoc, sizeLine_eq, Option.getD_some, List.map_cons, List.map_nil, List.cons_append, List.nil_append, List.append_nil, List.length_cons, List.length_nil, List.replicate, List.getElem?_cons_zero, List.getElem?_cons_succ, List.set_cons_zero, List.set_cons_succ, Nat.sub_self, *])
local macro_rules | `(tactic| fail "wp") => `(tactic| repeat (first | fail "wp d" | fail "wp s"))
local macro_rules | `(tactic| fail "hit") => `(tactic| (intro Q h; first | exact h | (fail "wp"; done) | (fail "wp"; first | exact h | exact ⟨by omega, h⟩ | exact ⟨⟨by omega, by omega⟩, h⟩)))

section
variable {P : Program} {w : World} {K : PySem.W.Frag} {mg : Str → Option Value} {base : Heap}
def f_draw : DS := (dSeq (dIfS (dTest (dOp gGt (oE (dOp xIx (xV 0) (oE (dC (.int 0))))) (oE (dC (.int 0)))))
  (dSeq (dAsg (xC2 gDivmod (oE (dOp xIx (xV 0) (oE (dC (.int 0))))) (xV 1)) (dgTup 2 (dgCons (dgSub (xV 0) (oE (dC (.int 0)))) (dgCons (dgName 2) dgNil))))
  (dRetV 2))
  dNext)
  (dSeq (dAsg (dOp gMod (oE (xC1 (xF1 int1T) (oE (dOp xAdd (oE (dOp xMul (oE (dOp xIx (xV 0) (oE (dC (.int 1))))) (oE (dC (.int 40009))))) (oE (dC (.int 15013))))))) (oE (dC (.int 2147483587)))) (dgSub (xV 0) (oE (dC (.int 1)))))
  (dRet (dOp gMod (oE (xC1 (xF1 int1T) (oE (dOp gFdiv (oE (dOp gMod (oE (xC1 (xF1 int1T) (oE (dOp xMul (oE (dOp xIx (xV 0) (oE (dC (.int 1))))) (oE (dOp xIx (xV 0) (oE (dC (.int 1))))))))) (oE (dC (.int 2147483549))))) (oE (dC (.int 13))))))) (xV 1)))))

theorem ok_draw (Φ : Facts P w K mg base) : Cal P w K mg base 3 "_law_draw" P_draw (spF K mg 2 (bodyS 3 f_draw)) :=
  def_ok Φ.T_draw sc_draw fun fa cd A up s H Ek hr hG => by
    have tk := takes_of (X := cxOf (L2.CX P w) P w K mg base N_draw "_law_draw" (defScope s_draw) fa cd A up s H Ek) (E := Ek) rfl rfl rfl rfl
    refine ⟨_, (pss_cons (ps_if (pt_cmpR op_gt (pe_ix (ixS (K := K) rfl) (pv 0) pe_int (fun _ _ => rfl)) pe_int (nomark _))
        (pss_cons (ps_asg (pe_callB call_divmod (by rfl) Φ.B.divmod (by decide +kernel) (pa_cons (pe_ix (ixS (K := K) rfl) (pv 0) pe_int (fun _ _ => rfl)) (pa_cons (pv 1) pa_nil))) (gTupK (K := K) rfl rfl (pgs_cons (pg_sub (pv 0) pe_int set_list (by first | (intro v; rfl) | skip)) (pgs_cons (pg_name (i := 2) sc_draw.nd rfl (by first | exact Or.inl rfl | exact Or.inr rfl)) pgs_nil))))
      (pss_one (ps_ret (pv 2))))
        pss_nil)
      (pss_cons (ps_asg (pe_op op_mod (pe_callTy call_int1 (by rfl) Φ.B.int (by decide +kernel) (pa_cons (pe_op (addO (K := K) rfl) (pe_op mulOp (pe_ix (ixS (K := K) rfl) (pv 0) pe_int (fun _ _ => rfl)) pe_int) pe_int) pa_nil)) pe_int) (pg_sub (pv 0) pe_int set_list (by first | (intro v; rfl) | skip)))
      (pss_one (ps_ret (pe_op op_mod (pe_callTy call_int1 (by rfl) Φ.B.int (by decide +kernel) (pa_cons (pe_op op_fdiv (pe_op op_mod (pe_callTy call_int1 (by rfl) Φ.B.int (by decide +kernel) (pa_cons (pe_op mulOp (pe_ix (ixS (K := K) rfl) (pv 0) pe_int (fun _ _ => rfl)) (pe_ix (ixS (K := K) rfl) (pv 0) pe_int (fun _ _ => rfl))) pa_nil)) pe_int) pe_int) pa_nil)) (pv 1)))))), ?_⟩
    unfold f_draw
    exact (snd_seq (snd_ifS (snd_test (snd_op os_gt (snd_oE (snd_op os_xIx snd_xV (snd_oE snd_int))) (snd_oE snd_int)))
        (snd_seq (snd_asg (snd_xC2 cs_divmod (snd_oE (snd_op os_xIx snd_xV (snd_oE snd_int))) snd_xV) (snd_gTup (snd_gCons (snd_gSub snd_xV (snd_oE snd_int)) (snd_gCons snd_gName snd_gNil))))
      snd_retV)
        snd_next)
      (snd_seq (snd_asg (snd_op os_mod (snd_oE (snd_xC1 cs_xInt1 (snd_oE (snd_op os_xAdd (snd_oE (snd_op os_xMul (snd_oE (snd_op os_xIx snd_xV (snd_oE snd_int))) (snd_oE snd_int))) (snd_oE snd_int))))) (snd_oE snd_int)) (snd_gSub snd_xV (snd_oE snd_int)))
      (snd_ret (snd_op os_mod (snd_oE (snd_xC1 cs_xInt1 (snd_oE (snd_op os_fdiv (snd_oE (snd_op os_mod (snd_oE (snd_xC1 cs_xInt1 (snd_oE (snd_op os_xMul (snd_oE (snd_op os_xIx snd_xV (snd_oE snd_int))) (snd_oE (snd_op os_xIx snd_xV (snd_oE snd_int))))))) (snd_oE snd_int))) (snd_oE snd_int))))) snd_xV))))

def S_draw : SpecT := fun ts st P X => ∃ (k : Nat) (n : Int), ts = [.cell k, .int n] ∧ PotAt st k ∧ 0 < n ∧ n < 1073741824 ∧
  ∀ (d b c : Int), 0 ≤ d → d < n → 0 ≤ c → c < 2147483648 → P (.fr (.int d)) (potSt st k b c)
theorem c_draw (Φ : Facts P w K mg base) : Cal P w K mg base 3 "_law_draw" P_draw (spF K mg 2 S_draw) := (ok_draw Φ).impF <|  by
  rintro ts st P X ⟨k, n, rfl, ⟨b, c, hst, c0, c1⟩, n0, n1, q⟩
  have hk := (List.getElem?_eq_some_iff.mp hst).1
  unfold f_draw
  fail "wp"
  split
  · exact ⟨⟨n0, n1⟩, q _ _ _ (Int.emod_nonneg _ (by omega)) (Int.emod_lt_of_pos _ n0) c0 c1⟩
  · have e0 := Int.emod_nonneg (c * 40009 + 15013) (show (2147483587 : Int) ≠ 0 by decide)
    have e1 := Int.emod_lt_of_pos (c * 40009 + 15013) (show (0 : Int) < 2147483587 by decide)
    refine ⟨.inl (by omega), by decide, .inl (by omega), by decide, ⟨by decide, by decide⟩, q _ _ _ (Int.emod_nonneg _ (by omega)) (Int.emod_lt_of_pos _ n0) e0 (by omega)⟩
def f_pot : DS := (dSeq (dAsg (dOp xAdd (oE (dOp xMul (oE (dC (.int 13))) (xV 1))) (oE (dC (.int 7)))) (dgName 2))
  (dSeq (dIfS (dTest (dOp gLt (xV 1) (oE (xC1 (xF1 lenT) (xV 0)))))
  (dAsg (xC1 gAbs (oE (dOp xIx (xV 0) (xV 1)))) (dgName 2))
  dNext)
  (dRetO (dLst (daCons (xC2 gMax2 (oE (dC (.int 0))) (oE (dOp gSub' (xV 2) (oE (dC (.int 1000000000000000000)))))) (daCons (dOp xAdd (oE (dOp gMod (oE (dOp xMul (oE (xC1 (xF1 int1T) (oE (dOp xAdd (oE (dOp gMod (oE (xC1 (xF1 int1T) (xV 2))) (oE (dC (.int 2147483549))))) (oE (dC (.int 3))))))) (oE (dOp gPow (oE (dOp xAdd (oE (dOp xMul (oE (dC (.int 2))) (xV 1))) (oE (dC (.int 5))))) (oE (dC (.int 3))))))) (oE (dC (.int 2147483477))))) (oE (dC (.int 1)))) daNil))))))

theorem ok_pot (Φ : Facts P w K mg base) : Cal P w K mg base 3 "_law_pot" P_pot (spF K mg 2 (bodyS 3 f_pot)) :=
  def_ok Φ.T_pot sc_pot fun fa cd A up s H Ek hr hG => by
    have tk := takes_of (X := cxOf (L2.CX P w) P w K mg base N_pot "_law_pot" (defScope s_pot) fa cd A up s H Ek) (E := Ek) rfl rfl rfl rfl
    refine ⟨_, (pss_cons (ps_set (i := 2) sc_pot.nd rfl (by first | exact Or.inl rfl | exact Or.inr rfl) (pe_op (addO (K := K) rfl) (pe_op mulOp pe_int (pv 1)) pe_int))
      (pss_cons (ps_if (pt_cmpR op_lt (pv 1) (pe_callB (lenQc (K := K) rfl) (by rfl) Φ.B.len (by decide +kernel) (pa_cons (pv 0) pa_nil)) (nomark _))
        (pss_one (ps_set (i := 2) sc_pot.nd rfl (by first | exact Or.inl rfl | exact Or.inr rfl) (pe_callB call_abs (by rfl) Φ.B.abs (by decide +kernel) (pa_cons (pe_ix (ixS (K := K) rfl) (pv 0) (pv 1) (fun _ _ => rfl)) pa_nil))))
        pss_nil)
      (pss_one (ps_ret (pe_lst (pa_cons (pe_callB (call_max2 rfl) (by rfl) Φ.B.max (by decide +kernel) (pa_cons pe_int (pa_cons (pe_op op_sub (pv 2) (pe_op op_pow pe_int pe_int)) pa_nil))) (pa_cons (pe_op (addO (K := K) rfl) (pe_op op_mod (pe_op mulOp (pe_callTy call_int1 (by rfl) Φ.B.int (by decide +kernel) (pa_cons (pe_op (addO (K := K) rfl) (pe_op op_mod (pe_callTy call_int1 (by rfl) Φ.B.int (by decide +kernel) (pa_cons (pv 2) pa_nil)) pe_int) pe_int) pa_nil)) (pe_op op_pow (pe_op (addO (K := K) rfl) (pe_op mulOp pe_int (pv 1)) pe_int) pe_int)) pe_int) pe_int) pa_nil))))))), ?_⟩
    unfold f_pot
    exact (snd_seq (snd_asg (snd_op os_xAdd (snd_oE (snd_op os_xMul (snd_oE snd_int) snd_xV)) (snd_oE snd_int)) snd_gName)
      (snd_seq (snd_ifS (snd_test (snd_op os_lt snd_xV (snd_oE (snd_xC1 cs_xLen snd_xV))))
        (snd_asg (snd_xC1 cs_abs (snd_oE (snd_op os_xIx snd_xV snd_xV))) snd_gName)
        snd_next)
      (snd_retO (snd_lstN (snd_cons (snd_xC2 cs_max2 (snd_oE snd_int) (snd_oE (snd_op os_sub snd_xV (snd_oE (snd_powC ⟨by decide, by decide, by decide +kernel⟩ (by decide +kernel)))))) (snd_cons (snd_op os_xAdd (snd_oE (snd_op os_mod (snd_oE (snd_op os_xMul (snd_oE (snd_xC1 cs_xInt1 (snd_oE (snd_op os_xAdd (snd_oE (snd_op os_mod (snd_oE (snd_xC1 cs_xInt1 snd_xV)) (snd_oE snd_int))) (snd_oE snd_int))))) (snd_oE (snd_op os_pow (snd_oE (snd_op os_xAdd (snd_oE (snd_op os_xMul (snd_oE snd_int) snd_xV)) (snd_oE snd_int))) (snd_oE snd_int))))) (snd_oE snd_int))) (snd_oE snd_int)) snd_nil))))))

def S_pot : SpecT := fun ts st P X => ∃ (ns : List Int) (k : Int), ts = [.scr ns, .int k] ∧ 0 ≤ k ∧ k < 64 ∧ ∀ (b c : Int), 0 ≤ c → c < 2147483648 → P (.ow (.lst [.int b, .int c])) st
theorem c_pot (Φ : Facts P w K mg base) : Cal P w K mg base 3 "_law_pot" P_pot (spF K mg 2 S_pot) := (ok_pot Φ).impF <|  by
  rintro ts st P X ⟨ns, k, rfl, k0, k1, q⟩
  unfold f_pot
  fail "wp"
  have e2 : ∀ m : Int, 0 ≤ m % 2147483477 + 1 ∧ m % 2147483477 + 1 < 2147483648 := fun m => by
    have := Int.emod_nonneg m (show (2147483477 : Int) ≠ 0 by decide)
    have := Int.emod_lt_of_pos m (show (0 : Int) < 2147483477 by decide)
    omega
  have e3 : ∀ m : Int, CMul (m % 2147483549 + 3) ((2 * k + 5) ^ Int.toNat 3) := fun m => by
    have := Int.emod_nonneg m (show (2147483549 : Int) ≠ 0 by decide)
    have := Int.emod_lt_of_pos m (show (0 : Int) < 2147483549 by decide)
    exact .inl ⟨by omega, by omega⟩
  have e4 : CPow (2 * k + 5) 3 := ⟨by decide, by decide, by omega⟩
  refine ⟨.inl ⟨by decide, by decide⟩, ?_⟩
  split
  · rename_i hl
    obtain ⟨j, rfl⟩ := Int.eq_ofNat_of_zero_le k0
    exact ⟨_, atI_nat (List.getElem?_eq_getElem (by omega)), by decide, .inl ⟨by decide, by decide⟩, e4, e3 _, by decide, q _ _ (e2 _).1 (e2 _).2⟩
  · exact ⟨by decide, .inl ⟨by decide, by decide⟩, e4, e3 _, by decide, q _ _ (e2 _).1 (e2 _).2⟩
def f_pick : DS := (dRet (dOp xIx (xV 1) (oE (xCallF 2 S_draw (daCons (xVar 0) (daCons (xC1 (xF1 lenT) (xV 1)) daNil))))))

theorem ok_pick (Φ : Facts P w K mg base) : Cal P w K mg base 5 "_law_pick" P_pick (spF K mg 2 (bodyS 2 f_pick)) :=
  def_ok Φ.T_pick sc_pick fun fa cd A up s H Ek hr hG => by
    have tk := takes_of (X := cxOf (L2.CX P w) P w K mg base N_pick "_law_pick" (defScope s_pick) fa cd A up s H Ek) (E := Ek) rfl rfl rfl rfl
    refine ⟨_, (pss_one (ps_ret (pe_ix (ixS (K := K) rfl) (pv 1) (pe_fz (pe_cs (c_draw Φ) (hr.mono (by decide)) hG (by rfl) (passAt tk) (pa_cons (pe_fz (pv 0)) (pa_cons (pe_callB (lenQc (K := K) rfl) (by rfl) Φ.B.len (by decide +kernel) (pa_cons (pv 1) pa_nil)) pa_nil)))) (fun _ _ => rfl)))), ?_⟩
    unfold f_pick
    exact (snd_ret (snd_op os_xIx snd_xV (snd_oE (snd_xCallF (snd_cons snd_xVar (snd_cons (snd_xC1 cs_xLen snd_xV) snd_nil))))))

/-- one of a list's items, one of a text's signs -/
def S_pick : SpecT := fun ts st P X => ∃ (k : Nat) (x : T) (xs : List T), ts = [.cell k, x] ∧ PotAt st k ∧ 0 < xs.length ∧ xs.length < 1000000 ∧ (x = .lst xs ∨ ∃ z, x = .str z ∧ z.length ≤ sizeLine ∧ xs = signsT z) ∧
  ∀ (t : T) (b c : Int), t ∈ xs → 0 ≤ c → c < 2147483648 → P (.fr t) (potSt st k b c)
theorem atI_mem {α : Type} {xs : List α} {d : Int} (h0 : 0 ≤ d) (h1 : d < xs.length) : ∃ v, atI xs d = some v ∧ v ∈ xs := by
  obtain ⟨n, rfl⟩ := Int.eq_ofNat_of_zero_le h0
  have hn : n < xs.length := by omega
  exact ⟨xs[n], atI_nat (List.getElem?_eq_getElem hn), List.getElem_mem hn⟩
theorem signs_len (z : Str) : (signsT z).length = z.length := by unfold signsT; rw [List.length_map, cs_len]
theorem c_pick (Φ : Facts P w K mg base) : Cal P w K mg base 5 "_law_pick" P_pick (spF K mg 2 S_pick) := (ok_pick Φ).impF <|  by
  rintro ts st P X ⟨k, x, xs, rfl, hp, l0, l1, hx, q⟩
  have hk := hp.lt
  unfold f_pick
  rcases hx with rfl | ⟨z, rfl, hz, rfl⟩
  · fail "wp"
    refine ⟨k, _, rfl, hp, by omega, by omega, fun d b c d0 d1 c0 c1 => ?_⟩
    fail "wp"
    obtain ⟨v, e, m⟩ := atI_mem d0 d1
    exact ⟨v, e, q v b c m c0 c1⟩
  · fail "wp"
    rw [signs_len] at l0 l1
    refine ⟨by omega, k, _, rfl, hp, by omega, by omega, fun d b c d0 d1 c0 c1 => ?_⟩
    fail "wp"
    obtain ⟨v, e, m⟩ := atI_mem (xs := cs z) d0 (by rw [← cs_len]; exact d1)
    exact ⟨by omega, v, e, q _ b c (List.mem_map.mpr ⟨v, m, rfl⟩) c0 c1⟩
theorem toBs_map {α : Type} {ts : List T} : ∀ (xs : List α) (f : α → Bool), ts = xs.map (fun x => .bl (f x)) → toBs ts = some (xs.map f)
  | [], _, h => by subst h; rfl
  | x :: xs, f, h => by
    subst h
    simp only [List.map_cons, toBs]
    rw [toBs_map xs f rfl]
    rfl
def f_is_integer : DS := (dRet (dAndV (dIsi qIs (.inl "int") (xV 0)) (dNotV (dIsi qIs (.inl "bool") (xV 0)))))

theorem ok_is_integer (Φ : Facts P w K mg base) : Cal P w K mg base 3 "is_integer" P_is_integer (spF K mg 1 (bodyS 1 f_is_integer)) :=
  def_ok Φ.T_is_integer sc_is_integer fun fa cd A up s H Ek hr hG => by
    have tk := takes_of (X := cxOf (L2.CX P w) P w K mg base N_is_integer "is_integer" (defScope s_is_integer) fa cd A up s H Ek) (E := Ek) rfl rfl rfl rfl
    refine ⟨_, (pss_one (ps_ret (pe_and (pe_callB (isiC (K := K) rfl) (by rfl) Φ.B.isinstance (by decide +kernel) (pa_cons (pv 0) (pa_cons (pe_bltn (v := .ty "int") (u := .type "int") (by rfl) Φ.B.int (by decide +kernel) rfl) pa_nil))) (pe_one (pe_not (pe_callB (isiC (K := K) rfl) (by rfl) Φ.B.isinstance (by decide +kernel) (pa_cons (pv 0) (pa_cons (pe_bltn (v := .ty "bool") (u := .type "bool") (by rfl) Φ.B.bool (by decide +kernel) rfl) pa_nil)))))))), ?_⟩
    unfold f_is_integer
    exact (snd_ret (snd_andV (snd_isiB Φ.is snd_xV) (snd_notV (snd_isiB Φ.is snd_xV))))

def intT : T → Bool
  | .int _ => true
  | _ => false
def S_is_integer : SpecT := fun ts st P X => ∃ (t : T) (n w : Nat), ts = [t] ∧ Tx n w t ∧ P (.fr (.bl (intT t))) st
theorem c_is_integer (Φ : Facts P w K mg base) : Cal P w K mg base 3 "is_integer" P_is_integer (spF K mg 1 S_is_integer) := (ok_is_integer Φ).impF <|  by
  rintro ts st P X ⟨t, n, m, rfl, ht, q⟩
  unfold f_is_integer
  cases ht.kd <;> (unfold intT at q; fail "wp")
def f_is_count : DS := (dRet (dAndV (xCallF 1 S_is_integer (daCons (xVar 0) daNil)) (dOp gGe (xV 0) (oE (dC (.int 0))))))

theorem ok_is_count (Φ : Facts P w K mg base) : Cal P w K mg base 5 "is_count" P_is_count (spF K mg 1 (bodyS 1 f_is_count)) :=
  def_ok Φ.T_is_count sc_is_count fun fa cd A up s H Ek hr hG => by
    have tk := takes_of (X := cxOf (L2.CX P w) P w K mg base N_is_count "is_count" (defScope s_is_count) fa cd A up s H Ek) (E := Ek) rfl rfl rfl rfl
    refine ⟨_, (pss_one (ps_ret (pe_and (pe_fz (pe_cs (c_is_integer Φ) (hr.mono (by decide)) hG (by rfl) (passAt tk) (pa_cons (pe_fz (pv 0)) pa_nil))) (pe_one (pe_cmpR op_ge (pv 0) pe_int (nomark _)))))), ?_⟩
    unfold f_is_count
    exact (snd_ret (snd_andV (snd_xCallF (snd_cons snd_xVar snd_nil)) (snd_op os_ge snd_xV (snd_oE snd_int))))

def countT : T → Bool
  | .int i => decide (0 ≤ i)
  | _ => false
def S_is_count : SpecT := fun ts st P X => ∃ (t : T) (n w : Nat), ts = [t] ∧ Tx n w t ∧ P (.fr (.bl (countT t))) st
theorem c_is_count (Φ : Facts P w K mg base) : Cal P w K mg base 5 "is_count" P_is_count (spF K mg 1 S_is_count) := (ok_is_count Φ).impF <|  by
  rintro ts st P X ⟨t, n, m, rfl, ht, q⟩
  unfold f_is_count
  fail "wp"
  refine ⟨t, n, m, rfl, ht, ?_⟩
  cases ht.kd <;> (unfold countT at q; unfold intT; fail "wp")
def f_is_below : DS := (dRet (dAndV (xCallF 1 S_is_count (daCons (xVar 0) daNil)) (dOp gLt (xV 0) (xV 1))))

theorem ok_is_below (Φ : Facts P w K mg base) : Cal P w K mg base 7 "is_below" P_is_below (spF K mg 2 (bodyS 2 f_is_below)) :=
  def_ok Φ.T_is_below sc_is_below fun fa cd A up s H Ek hr hG => by
    have tk := takes_of (X := cxOf (L2.CX P w) P w K mg base N_is_below "is_below" (defScope s_is_below) fa cd A up s H Ek) (E := Ek) rfl rfl rfl rfl
    refine ⟨_, (pss_one (ps_ret (pe_and (pe_fz (pe_cs (c_is_count Φ) (hr.mono (by decide)) hG (by rfl) (passAt tk) (pa_cons (pe_fz (pv 0)) pa_nil))) (pe_one (pe_cmpR op_lt (pv 0) (pv 1) (nomark _)))))), ?_⟩
    unfold f_is_below
    exact (snd_ret (snd_andV (snd_xCallF (snd_cons snd_xVar snd_nil)) (snd_op os_lt snd_xV snd_xV)))

def S_is_below : SpecT := fun ts st P X => ∃ (t : T) (m : Int) (n w : Nat), ts = [t, .int m] ∧ Tx n w t ∧ P (.fr (.bl (belowT m t))) st
theorem c_is_below (Φ : Facts P w K mg base) : Cal P w K mg base 7 "is_below" P_is_below (spF K mg 2 S_is_below) := (ok_is_below Φ).impF <|  by
  rintro ts st P X ⟨t, m, n, m', rfl, ht, q⟩
  unfold f_is_below
  fail "wp"
  refine ⟨t, n, m', rfl, ht, ?_⟩
  cases ht.kd <;> (unfold belowT at q; unfold countT; fail "wp")
  rename_i i
  dsimp only at q
  by_cases h : 0 ≤ i
  · rw [if_pos h]
    rw [show (decide (0 ≤ i) && decide (i < m)) = decide (i < m) by rw [decide_eq_true h, Bool.true_and]] at q
    exact q
  · rw [if_neg h]
    rw [show (decide (0 ≤ i) && decide (i < m)) = false by rw [decide_eq_false h, Bool.false_and]] at q
    exact q
def f_is_list : DS := (dRet (dIsiT qIs [.inl "list", .inl "tuple"] (xV 0)))

theorem ok_is_list (Φ : Facts P w K mg base) : Cal P w K mg base 3 "is_list" P_is_list (spF K mg 1 (bodyS 1 f_is_list)) :=
  def_ok Φ.T_is_list sc_is_list fun fa cd A up s H Ek hr hG => by
    have tk := takes_of (X := cxOf (L2.CX P w) P w K mg base N_is_list "is_list" (defScope s_is_list) fa cd A up s H Ek) (E := Ek) rfl rfl rfl rfl
    refine ⟨_, (pss_one (ps_ret (pe_callB (isiTC (K := K) rfl) (by rfl) Φ.B.isinstance (by decide +kernel) (pa_cons (pv 0) (pa_cons (pe_tup (pa_cons (pe_bltn (v := .ty "list") (u := .type "list") (by rfl) Φ.B.list (by decide +kernel) rfl) (pa_cons (pe_bltn (v := .ty "tuple") (u := .type "tuple") (by rfl) Φ.B.tuple (by decide +kernel) rfl) pa_nil))) pa_nil))))), ?_⟩
    unfold f_is_list
    exact (snd_ret (snd_isiT Φ.is (.cons (.ty _) (.ty _) (.cons (.ty _) (.ty _) .nil)) (by decide) snd_xV))

def S_is_list : SpecT := fun ts st P X => ∃ (t : T) (n w : Nat), ts = [t] ∧ Tx n w t ∧ P (.fr (.bl (rowI t).isSome)) st
theorem c_is_list (Φ : Facts P w K mg base) : Cal P w K mg base 3 "is_list" P_is_list (spF K mg 1 S_is_list) := (ok_is_list Φ).impF <|  by
  rintro ts st P X ⟨t, n, m, rfl, ht, q⟩
  unfold f_is_list
  cases ht.kd <;> (unfold rowI at q; fail "wp"; first | exact ⟨true, by decide +kernel, q⟩ | exact ⟨false, by decide +kernel, q⟩)
def f_is_name : DS := (dSeq (dIfS (dOr (dNot (dTest (dIsi qIs (.inl "str") (xV 0)))) (dNot (dTest (dChain gLe gLe (oE (dC (.int 1))) (oE (xC1 (xF1 lenT) (xV 0))) (oE (dC (.int 8)))))))
  (dRet (dC (.bl false)))
  dNext)
  (dRet (dAndV (dOp (xIn false) (oE (dOp xIx (xV 0) (oE (dC (.int 0))))) (oE (dC (.str "abcdefghijklmnopqrstuvwxyz")))) (xC1 gAll (oE (dLc (diS (xVar 0)) (dgName 1) dYes (dOp (xIn false) (xV 1) (oE (dC (.str "abcdefghijklmnopqrstuvwxyz0123456789")))) [1]))))))

theorem ok_is_name (Φ : Facts P w K mg base) : Cal P w K mg base 3 "is_name" P_is_name (spF K mg 1 (bodyS 2 f_is_name)) :=
  def_ok Φ.T_is_name sc_is_name fun fa cd A up s H Ek hr hG => by
    have tk := takes_of (X := cxOf (L2.CX P w) P w K mg base N_is_name "is_name" (defScope s_is_name) fa cd A up s H Ek) (E := Ek) rfl rfl rfl rfl
    refine ⟨_, (pss_cons (ps_if (PW.pt (pw_or (pt_not (pt_val (pe_callB (isiC (K := K) rfl) (by rfl) Φ.B.isinstance (by decide +kernel) (pa_cons (pv 0) (pa_cons (pe_bltn (v := .ty "str") (u := .type "str") (by rfl) Φ.B.str (by decide +kernel) rfl) pa_nil))))) (pw_or1 (pt_not (pt_chain op_le op_le pe_int (pe_callB (lenQc (K := K) rfl) (by rfl) Φ.B.len (by decide +kernel) (pa_cons (pv 0) pa_nil)) (pe_glI (by rfl) Φ.k_LONGEST_NAME))))))
        (pss_one (ps_ret pe_bl))
        pss_nil)
      (pss_one (ps_ret (pe_and (pe_cmpR (inO (K := K) rfl (units65 hr)) (pe_ix (ixS (K := K) rfl) (pv 0) pe_int (fun _ _ => rfl)) (pe_glS (by rfl) Φ.k_LETTERS) (by rfl)) (pe_one (pe_callB (allC (K := K) rfl rfl) (by rfl) Φ.B.all (by decide +kernel) (pa_cons (pe_fz (pe_lc (own := [("sign", 1)]) (g := gName 1) (tt := tYes) rfl sc_is_name.nd (pi_str (pe_fz (pv 0))) (blkOk_by (N := N_is_name) (sc := defScope s_is_name) (by decide +kernel)) (fun _ _ _ _ _ => (pg_name (i := 1) sc_is_name.nd rfl (by first | exact Or.inl rfl | exact Or.inr rfl))) (fun _ _ _ _ _ => pts_nil) (fun _ _ _ _ _ => (pe_cmpR (inO (K := K) rfl (units65 hr)) (pv 1) (pe_glS (by rfl) Φ.k_LETTERS_AND_DIGITS) (by rfl))))) pa_nil))))))), ?_⟩
    unfold f_is_name
    exact (snd_seq (snd_ifS (snd_or (snd_not (snd_tB (snd_isiB Φ.is snd_xV))) (snd_not (snd_test (snd_chain os_le os_le (snd_oE snd_int) (snd_oE (snd_xC1 cs_xLen snd_xV)) (snd_oE snd_int)))))
        (snd_ret snd_bl)
        snd_next)
      (snd_ret (snd_andV (snd_op os_xIn (snd_oE (snd_op os_xIx snd_xV (snd_oE snd_int))) (snd_oE snd_str)) (snd_xC1 cs_all (snd_oE (snd_fz (snd_lc (snd_iStr snd_xVar) (snd_wName (by decide)) snd_yes (snd_op os_xIn snd_xV (snd_oE snd_str)))))))))

def S_is_name : SpecT := fun ts st P X => ∃ (t : T) (n w : Nat), ts = [t] ∧ Tx n w t ∧ w ≤ 100000 ∧ P (.fr (.bl (nameT t))) st
theorem c_is_name (Φ : Facts P w K mg base) : Cal P w K mg base 3 "is_name" P_is_name (spF K mg 1 S_is_name) := (ok_is_name Φ).impF <|  by
  rintro ts st P X ⟨t, n, m, rfl, ht, hm, q⟩
  unfold f_is_name
  cases ht.kd
  case str z hz =>
    have hz : z.length ≤ sizeLine := by rw [sizeLine_eq]; omega
    fail "wp"
    rw [sizeLine_eq] at hz
    refine ⟨hz, ?_⟩
    split
    · rename_i h1
      split
      · rename_i h8
        rw [show nameT (.str z) = false from name_long (by have := of_decide_eq_false h8; omega)] at q
        exact q
      · rename_i h8
        have h8 : z.length ≤ 8 := by
          apply Classical.byContradiction
          intro n
          exact h8 (decide_eq_false (by omega))
        cases e : cs z with
        | nil => rw [cs_len, e] at h1; simp at h1
        | cons c r =>
          refine ⟨hz, c, atI0, ?_⟩
          split
          · rename_i hc
            refine dLcB_map (fun t => match t with
              | .str s => .bl (decide (s.cps.toList.headD 0 ∈ alnum))
              | _ => .non) (by rw [signs_len, sizeLine_eq]; exact hz) (fun t Q ht h => ?_) ?_
            · obtain ⟨c, hc, rfl⟩ := List.mem_map.mp ht
              fail "wp"
              rw [alnum_cs]
              exact h _ rfl
            · fail "wp"
              refine ⟨_, toBs_map (cs z) (fun c => decide (c ∈ alnum)) ?_, ?_⟩
              · unfold signsT
                rw [List.map_map]
                rfl
              · rw [show nameT (.str z) = nameB z from rfl, name_mid e (by omega) h8 hc] at q
                exact q
          · rename_i hc
            rw [show nameT (.str z) = false from name_first e hc] at q
            exact q
    · rename_i h1
      rw [show nameT (.str z) = false from name_short (by omega)] at q
      exact q
  all_goals
    rw [show nameT _ = false from rfl] at q
    fail "wp"
end
end Fu
set_option Elab.async false
set_option linter.all false
set_option maxRecDepth 100000
set_option maxHeartbeats 4000000
namespace Fu
open PySem PySem.Spec PyProof.Rows L2 Hv
local macro_rules | `(tactic| fail "wp d") => `(tactic| dsimp only [dMk1, dMk2, dMk2r, dMk0, dXv, dIsV, dDisp, dTryC, clAs, clO, clNil, dRaise0, dIsiT, dIsXT, gReprQ, deref_ev, dMakeS, dProp, dRevT, dUp, consO, dFor_eq, dLc_eq, dDc_eq, dLc2_eq, deref_non, deref_bl, deref_int, deref_str, deref_ty, deref_lst, deref_tup, deref_dct, deref_ins, deref_glob, deref_scr, deref_exc, deref_cell, truth_non, truth_bl, truth_int, truth_lst, truth_tup, truth_str, tagOf_non, tagOf_bl, tagOf_int, tagOf_str, tagOf_lst, tagOf_scr, tagOf_tup, tagOf_dct, tagOf_ins, toKey_int, toKey_str, isNon_non, isNon_bl, isNon_int, isNon_str, isNon_ty, isNon_lst, isNon_tup, isNon_dct, isNon_ins, isNon_glob, isNon_scr, isNon_exc, bodyS, startE, dSeq, dNext, dIfS, dRet, dRetO, dRetV, dRetN, dDrop, dBreak, dCont, dTest, dTru, dAnd, dOr, dNot, dAndV, dOrV, dNotV, dIfE, dChain, xC1, xC2, dOp, dC, dVar, xVar, takeV, om, omP, oV, xV, okSl, oE, daNil, daCons, drNil, drCons, dLst, dTup, dDct, vw, vws, look, dAsg, dgName, dgNil, dgCons, dgTup, dgSub, dSetO, dSetL, dPar, dPar3, dParOO, dParOF, dParFO, dYes, dNeg, dDGet, dDIn, dSl, dpNo, dpSome, dFld, dSFld, dCon, dCc, xFmt, fmtT, xFstr, jNil, jCons, joinT, seqT, xCallF, xCallO, xMeth, xMethO, Rt.val, Rt.isOw, dMake, dBox, dRaise1, dRaise2, dAppend, dExtend, dPopAt, dPop, dTmpAppend, dTmpPop, dDPut, dDPop1, xLk, xLkLc, lkM, lkOn, lkOff, lkOk, lkX, dIsi, xSort, sortP, dInO, dLenO, dEqO, dXf, dIsX, daKw, seeI, seeL, upto, uptoT, cellT, ansB, ansI, gI0, gIC, gSub', gFdiv, gMod, gPow, gLt, gLe, gGt, gGe, xAdd, addT, xMul, mulT, xEq, xIn, negB, inT, sign1_eq, gIs, gIsNot, xIx, ixT, ixC, gSlS, xSlL, slLT, gSlT, xF1, lenT, gAbs, gMax2, gMin2, int1T, gDivmod, bool1T, str1T, gAll, gAny, gSum, listT, tupleT, dictT, gRepr, gEqK, gAddL, wiped, wipeE, unw, unE, diL, diT, diS, diR1, diR2, diE, diK, diI, diV, xZ, zipO, diZK, diZV, zMapC, zMapN, zAppC, zAppN, zRepS, zRep0, zGet0, zGetS, zSet0, zSetS, zLenN, zLenC, zOMap, zONone, Nat.reduceAdd, Nat.reduceSub])
local macro_rules | `(tactic| fail "wp s") => `(tactic| simp only [gP_nil, gP_cons, is_NoneType_bool, is_NoneType_int, is_NoneType_list, is_NoneType_str, is_NoneType_tuple, is_bool_bool, is_bool_int, is_bool_list, is_bool_str, is_bool_tuple, is_dict_bool, is_dict_int, is_dict_list, is_dict_str, is_dict_tuple, is_int_bool, is_int_int, is_int_list, is_int_str, is_int_tuple, is_list_bool, is_list_int, is_list_list, is_list_str, is_list_tuple, is_str_bool, is_str_int, is_str_list, is_str_str, is_str_tuple, is_tuple_bool, is_tuple_int, is_tuple_list, is_tuple_str, is_tuple_tuple, ix_InvalidScript_HookError, ix_InvalidScript_StateError, cc_Boxes_MOST_VALUES, fl_Script, hd_InvalidScript_InvalidScript, xf_InvalidScript, ex_map, eqT_int, eqT_bl, eqT_str, inL_str, inL_strN, sign_inj, Nat.reduceAdd, Nat.reduceSub, Nat.reduceLeDiff, Nat.reduceLT, Nat.zero_lt_succ, Nat.succ_pos, if_true, if_false, Bool.false_eq_true, ite_true, ite_false, true_and, and_true, decide_eq_true_eq, decide_true, decide_false, exists_eq_left', exists_eq_left, T.str.injEq, T.int.injEq, T.bl.injEq, T.lst.injEq, T.tup.injEq, T.dct.injEq, T.cell.injEq, T.ins.injEq, exists_const, exists_and_left, Bool.not_true, Bool.not_false, eq_self, reduceIte, reduceCtorEq, Bool.not_eq_true', Bool.true_eq_false, and_false, false_and, exists_false, or_false, false_or, Option.some.injEq, List.getElem?_set_self, List.set_set, List.length_set, atI0, atI1, atI2, ixN0, ixN1, List.append_assoc, sizeLine_eq, Option.getD_some, List.map_cons, List.map_nil, List.cons_append, List.nil_append, List.append_nil, List.length_cons, List.length_nil, List.replicate, List.getElem?_cons_zero, List.getElem?_cons_succ, List.set_cons_zero, List.set_cons_succ, Nat.sub_self, *])
local macro_rules | `(tactic| fail "wp") => `(tactic| repeat (first | fail "wp d" | fail "wp s"))
local macro_rules | `(tactic| fail "hit") => `(tactic| (intro Q h; first | exact h | (fail "wp"; done) | (fail "wp"; first | exact h | exact ⟨by omega, h⟩ | exact ⟨⟨by omega, by omega⟩, h⟩)))

section
variable {P : Program} {w : World} {K : PySem.W.Frag} {mg : Str → Option Value} {base : Heap}
/-! ## texts -/
theorem cs_join0' : ∀ ys : List Str, cs (Str.join (Str.ofString "") ys) = ys.flatMap cs
  | [] => rfl
  | [x] => by simp [Str.join]
  | x :: y :: r => by
    show cs (x ++ Str.ofString "" ++ Str.join (Str.ofString "") (y :: r)) = cs x ++ (y :: r).flatMap cs
    rw [cs_app, cs_app, cs_join0' (y :: r)]
    show cs x ++ [] ++ _ = _
    rw [List.append_nil]
theorem cs_join0 (ys : List Str) : cs (Txt.join (Str.ofString "") ys) = ys.flatMap cs := by rw [show Txt.join (Str.ofString "") ys = Str.join (Str.ofString "") ys from by first | exact PySem.StrLaws.glued_eq_join _ ys | exact TL.join_eq _ ys | exact StrLaws.glued_eq_join _ ys, cs_join0']
theorem toSs_ones : ∀ l : List Nat, toSs (l.map fun c => T.str ⟨#[c]⟩) = some (l.map fun c => (⟨#[c]⟩ : Str))
  | [] => rfl
  | c :: l => by rw [List.map_cons, toSs, toSs_ones l]; rfl
theorem join_ones (l : List Nat) : cs (Txt.join (Str.ofString "") (l.map fun c => (⟨#[c]⟩ : Str))) = l := by
  rw [cs_join0]
  induction l with
  | nil => rfl
  | cons c l ih => rw [List.map_cons, List.flatMap_cons, ih]; rfl
theorem ones_sum (l : List Nat) : ((l.map fun c => (⟨#[c]⟩ : Str)).map fun x => x.length).sum = l.length := by
  induction l with
  | nil => rfl
  | cons c l ih => rw [List.map_cons, List.map_cons, List.sum_cons, ih, List.length_cons, Nat.add_comm]; rfl
def f_odd_digit : DS := (dRet (xCallF 2 S_pick (daCons (xVar 0) (daCons (dLst (daCons (dC (.int 4)) (daCons (dNeg (oE (dC (.int 1)))) (daCons (dC (.bl true)) (daCons (dC (.bl false)) (daCons (dC (.str "1")) (daCons (dC .non) (daCons (dTup (daCons (dC (.int 1)) daNil)) (daCons (dLst (daCons (dC (.int 0)) daNil)) (daCons (dC (.int 100000000000000000000000000000)) (daCons (dNeg (oE (dC (.int 100000000000000000000000000000)))) (daCons (dC (.int 5)) (daCons (dC (.int 0)) (daCons (dC (.int 3)) daNil)))))))))))))) daNil))))

theorem ok_odd_digit (Φ : Facts P w K mg base) : Cal P w K mg base 7 "_law_odd_digit" P_odd_digit (spF K mg 1 (bodyS 1 f_odd_digit)) :=
  def_ok Φ.T_odd_digit sc_odd_digit fun fa cd A up s H Ek hr hG => by
    have tk := takes_of (X := cxOf (L2.CX P w) P w K mg base N_odd_digit "_law_odd_digit" (defScope s_odd_digit) fa cd A up s H Ek) (E := Ek) rfl rfl rfl rfl
    refine ⟨_, (pss_one (ps_ret (pe_fz (pe_cs (c_pick Φ) (hr.mono (by decide)) hG (by rfl) (passAt tk) (pa_cons (pe_fz (pv 0)) (pa_cons (pe_lst (pa_cons pe_int (pa_cons (pe_un un_neg pe_int) (pa_cons pe_bl (pa_cons pe_bl (pa_cons pe_str (pa_cons pe_non (pa_cons (pe_tup (pa_cons pe_int pa_nil)) (pa_cons (pe_lst (pa_cons pe_int pa_nil)) (pa_cons (pe_op op_pow pe_int pe_int) (pa_cons (pe_un un_neg (pe_op op_pow pe_int pe_int)) (pa_cons pe_int (pa_cons pe_int (pa_cons pe_int pa_nil)))))))))))))) pa_nil)))))), ?_⟩
    unfold f_odd_digit
    exact (snd_ret (snd_xCallF (snd_cons snd_xVar (snd_cons (snd_lst (snd_cons snd_int (snd_cons (snd_neg (snd_oE snd_int)) (snd_cons snd_bl (snd_cons snd_bl (snd_cons snd_str (snd_cons snd_non (snd_cons (snd_tup (snd_cons snd_int snd_nil)) (snd_cons (snd_lst (snd_cons snd_int snd_nil)) (snd_cons (snd_powC ⟨by decide, by decide, by decide +kernel⟩ (by decide +kernel)) (snd_cons (snd_neg (snd_oE (snd_powC ⟨by decide, by decide, by decide +kernel⟩ (by decide +kernel)))) (snd_cons snd_int (snd_cons snd_int (snd_cons snd_int snd_nil)))))))))))))) snd_nil))))

def S_odd_digit : SpecT := fun ts st P X => ∃ (k : Nat), ts = [.cell k] ∧ PotAt st k ∧ ∀ (t : T) (b c : Int), Tx 1 200 t → 0 ≤ c → c < 2147483648 → P (.fr t) (potSt st k b c)
theorem c_odd_digit (Φ : Facts P w K mg base) : Cal P w K mg base 7 "_law_odd_digit" P_odd_digit (spF K mg 1 S_odd_digit) := (ok_odd_digit Φ).impF <|  by
  rintro ts st P X ⟨k, rfl, hp, q⟩
  unfold f_odd_digit
  fail "wp"
  refine ⟨k, _, _, rfl, hp, by simp, by simp, .inl rfl, fun t b c ht c0 c1 => q t b c ?_ c0 c1⟩
  refine (?_ : ∀ t ∈ _, Tx 1 200 t) t ht
  repeat' (first | refine List.forall_mem_cons.mpr ⟨?_, ?_⟩ | exact fun _ h => (List.not_mem_nil h).elim)
  all_goals exact tx_lit _ rfl (by decide +kernel)
/-! ## a name that is drawn -/
structure Lab (z : Str) (j : Nat) : Prop where
  first : ∃ c r, cs z = c :: r ∧ c ∈ letters
  all : ∀ c ∈ cs z, c ∈ alnum
  len : (cs z).length = j + 1
theorem letters_alnum {c : Nat} (h : c ∈ letters) : c ∈ alnum := List.mem_append_left _ h
theorem signs_e : Str.ofString "abcdefghijklmnopqrstuvwxyz0123456789" = signs := rfl
theorem signs_l : signs.length = 36 := by decide +kernel
theorem alnum_lt {c : Nat} (h : c ∈ alnum) : c < 16 ^ 8 := by
  have : ∀ c ∈ alnum, c < 16 ^ 8 := by decide +kernel
  exact this c h
theorem NameOk.b {z : Str} (h : NameOk z) : nameB z = true := by
  obtain ⟨h1, h2, ⟨c, r, e, hc⟩, ha⟩ := h
  have hl := cs_len z
  unfold nameB
  rw [hl, decide_eq_true h1, decide_eq_true h2, show ((cs z).all fun c => decide (c ∈ alnum)) = true from List.all_eq_true.mpr fun c h => decide_eq_true (ha c h), e]
  simp [hc]
theorem NameOk.tx {z : Str} (h : NameOk z) : Tx 0 8 (.str z) := tx_str (fun c hc => alnum_lt (h.all c hc)) (by rw [cs_len]; exact h.hi)
def f_label : DS := (dSeq (dAsg (dC (.str "abcdefghijklmnopqrstuvwxyz0123456789")) (dgName 1))
  (dSeq (dAsg (xCallF 2 S_pick (daCons (xVar 0) (daCons (dLst (daCons (dC (.int 1)) (daCons (dC (.int 1)) (daCons (dC (.int 2)) (daCons (dC (.int 3)) (daCons (dC (.int 5)) (daCons (dC (.int 7)) (daCons (dC (.int 8)) (daCons (dC (.int 8)) daNil))))))))) daNil))) (dgName 2))
  (dRet (dOp xAdd (oE (dOp xIx (xV 1) (oE (xCallF 2 S_draw (daCons (xVar 0) (daCons (dC (.int 26)) daNil)))))) (oE (joinT (dC (.str "")) (oE (dLc (diR1 (daCons (dOp gSub' (xV 2) (oE (dC (.int 1)))) daNil)) (dgName 3) dYes (dOp xIx (xV 1) (oE (xCallF 2 S_draw (daCons (xVar 0) (daCons (dC (.int 36)) daNil))))) [3]))))))))

theorem ok_label (Φ : Facts P w K mg base) : Cal P w K mg base 7 "_law_label" P_label (spF K mg 1 (bodyS 4 f_label)) :=
  def_ok Φ.T_label sc_label fun fa cd A up s H Ek hr hG => by
    have tk := takes_of (X := cxOf (L2.CX P w) P w K mg base N_label "_law_label" (defScope s_label) fa cd A up s H Ek) (E := Ek) rfl rfl rfl rfl
    refine ⟨_, (pss_cons (ps_set (i := 1) sc_label.nd rfl (by first | exact Or.inl rfl | exact Or.inr rfl) pe_str)
      (pss_cons (ps_set (i := 2) sc_label.nd rfl (by first | exact Or.inl rfl | exact Or.inr rfl) (pe_fz (pe_cs (c_pick Φ) (hr.mono (by decide)) hG (by rfl) (passAt tk) (pa_cons (pe_fz (pv 0)) (pa_cons (pe_lst (pa_cons pe_int (pa_cons pe_int (pa_cons pe_int (pa_cons pe_int (pa_cons pe_int (pa_cons pe_int (pa_cons pe_int (pa_cons pe_int pa_nil))))))))) pa_nil)))))
      (pss_one (ps_ret (pe_op (addO (K := K) rfl) (pe_ix (ixS (K := K) rfl) (pv 1) (pe_fz (pe_cs (c_draw Φ) (hr.mono (by decide)) hG (by rfl) (passAt tk) (pa_cons (pe_fz (pv 0)) (pa_cons pe_int pa_nil)))) (fun _ _ => rfl)) (pe_joinK (K := K) rfl pe_str (pe_fz (pe_lc (own := [("_law_turn", 3)]) (g := gName 3) (tt := tYes) rfl sc_label.nd (pi_range1 (by rfl) Φ.B.range (pa_cons (pe_op op_sub (pv 2) pe_int) pa_nil)) (blkOk_by (N := N_label) (sc := defScope s_label) (by decide +kernel)) (fun _ _ _ _ _ => (pg_name (i := 3) sc_label.nd rfl (by first | exact Or.inl rfl | exact Or.inr rfl))) (fun _ _ _ _ _ => pts_nil) (fun _ _ _ _ _ => (pe_ix (ixS (K := K) rfl) (pv 1) (pe_fz (pe_cs (c_draw Φ) (hr.mono (by decide)) hG (by rfl) (passAt takes_none5) (pa_cons (pe_fz (pv 0)) (pa_cons pe_int pa_nil)))) (fun _ _ => rfl))))))))))), ?_⟩
    unfold f_label
    exact (snd_seq (snd_asg snd_str snd_gName)
      (snd_seq (snd_asg (snd_xCallF (snd_cons snd_xVar (snd_cons (snd_lst (snd_cons snd_int (snd_cons snd_int (snd_cons snd_int (snd_cons snd_int (snd_cons snd_int (snd_cons snd_int (snd_cons snd_int (snd_cons snd_int snd_nil))))))))) snd_nil))) snd_gName)
      (snd_ret (snd_op os_xAdd (snd_oE (snd_op os_xIx snd_xV (snd_oE (snd_xCallF (snd_cons snd_xVar (snd_cons snd_int snd_nil)))))) (snd_oE (snd_xJoin (snd_join snd_str (snd_oE (snd_fz (snd_lc (snd_iR1 (snd_cons (snd_op os_sub snd_xV (snd_oE snd_int)) snd_nil)) (snd_wName (by decide)) snd_yes (snd_op os_xIx snd_xV (snd_oE (snd_xCallF (snd_cons snd_xVar (snd_cons snd_int snd_nil)))))))))))))))

def S_label : SpecT := fun ts st P X => ∃ (k : Nat), ts = [.cell k] ∧ PotAt st k ∧ ∀ (z : Str) (b c : Int), NameOk z → 0 ≤ c → c < 2147483648 → P (.fr (.str z)) (potSt st k b c)
theorem c_label (Φ : Facts P w K mg base) : Cal P w K mg base 7 "_law_label" P_label (spF K mg 1 S_label) := (ok_label Φ).impF <|  by
  rintro ts st P X ⟨k, rfl, hp, q⟩
  have hk := hp.lt
  unfold f_label
  fail "wp"
  rw [signs_e]
  refine ⟨k, _, _, rfl, hp, by simp, by simp, .inl rfl, fun t b c ht c0 c1 => ?_⟩
  obtain ⟨n, rfl, n1, n8⟩ : ∃ n : Int, t = .int n ∧ 1 ≤ n ∧ n ≤ 8 := by
    simp only [List.mem_cons, List.not_mem_nil, or_false] at ht
    rcases ht with rfl | rfl | rfl | rfl | rfl | rfl | rfl | rfl <;> exact ⟨_, rfl, by decide, by decide⟩
  fail "wp"
  refine ⟨k, _, rfl, potSt_at hk c0 c1, by decide, by decide, fun d b2 c2 d0 d1 e0 e1 => ?_⟩
  rw [potSt_set]
  fail "wp"
  have hs : (signs.length : Nat) = 36 := signs_l
  obtain ⟨j, rfl⟩ := Int.eq_ofNat_of_zero_le d0
  have hj : j < 26 := by omega
  have hj2 : j < (cs signs).length := by rw [cs_signs]; exact Nat.lt_of_lt_of_le hj (by decide)
  have hc : (cs signs)[j] ∈ letters := by
    have e : (cs signs)[j] = letters[j]'(by exact hj) := by
      have : ∀ j (h : j < 26), (cs signs)[j]? = letters[j]? := by
        rw [cs_signs]; decide +kernel
      have := this j hj
      rw [List.getElem?_eq_getElem hj2, List.getElem?_eq_getElem hj] at this
      exact Option.some.inj this
    rw [e]
    exact List.getElem_mem _
  refine ⟨by omega, _, atI_nat (List.getElem?_eq_getElem hj2), ⟨by omega, by omega⟩, ?_⟩
  generalize (cs signs)[j] = c1' at hc
  refine dLcB_at (fun i acc ev => (∃ b c, 0 ≤ c ∧ c < 2147483648 ∧ ev = ⟨[.fr (.cell k), .fr (.str signs), .fr (.int n), .no], potSt st k b c⟩) ∧ ∃ l : List Nat, l.length = i ∧ (∀ c ∈ l, c ∈ alnum) ∧ acc = l.map fun c => .str ⟨#[c]⟩) ⟨⟨b2, c2, e0, e1, rfl⟩, [], rfl, (fun _ h => nomatch h), rfl⟩ ?_ ?_
  · rintro i t acc ev hi ⟨⟨b3, c3, f0, f1, rfl⟩, l, hl, ha, rfl⟩
    obtain ⟨h1, rfl⟩ := rangeT_get hi
    fail "wp"
    refine ⟨k, _, rfl, potSt_at hk f0 f1, by decide, by decide, fun d b4 c4 g0 g1 k0 k1 => ?_⟩
    rw [potSt_set]
    fail "wp"
    obtain ⟨v, ev, hv⟩ := atI_mem (xs := cs signs) g0 (by rw [← cs_len, hs]; exact g1)
    rw [cs_signs] at hv
    refine ⟨v, ev, by rw [List.length_map, hl]; omega, ⟨b4, c4, k0, k1, rfl⟩, l ++ [v], by rw [List.length_append, hl]; rfl, fun c hc => ?_, by rw [List.map_append]; rfl⟩
    rcases List.mem_append.mp hc with hc | hc
    · exact ha c hc
    · rw [List.mem_singleton.mp hc]; exact hv
  · rintro acc ev ⟨⟨b3, c3, f0, f1, rfl⟩, l, hl, ha, rfl⟩
    rw [rangeT_len] at hl
    fail "wp"
    refine ⟨_, toSs_ones l, ?_, ?_, ?_⟩
    · rw [ones_sum, List.length_map]; show l.length + l.length * 0 ≤ _; omega
    · rw [cs_len (Txt.join _ _), join_ones]; show 1 + l.length ≤ _; omega
    · refine q _ _ _ ?_ f0 f1
      have e : cs ((⟨#[c1']⟩ : Str) ++ Txt.join (Str.ofString "") (l.map fun c => (⟨#[c]⟩ : Str))) = c1' :: l := by rw [cs_app, join_ones]; rfl
      refine ⟨by rw [e]; exact Nat.succ_le_succ (Nat.zero_le _), by rw [e, List.length_cons]; omega, ⟨c1', l, e, hc⟩, fun c h => ?_⟩
      rw [e] at h
      rcases List.mem_cons.mp h with rfl | h
      · exact letters_alnum hc
      · exact ha c h
end
end Fu
set_option Elab.async false
set_option linter.all false
set_option maxRecDepth 100000
set_option maxHeartbeats 4000000
namespace Fu
open PySem PySem.Spec PyProof.Rows L2 Hv
local macro_rules | `(tactic| fail "wp d") => `(tactic| dsimp only [dMk1, dMk2, dMk2r, dMk0, dXv, dIsV, dDisp, dTryC, clAs, clO, clNil, dRaise0, dIsiT, dIsXT, gReprQ, deref_ev, dMakeS, dProp, dRevT, dUp, consO, dFor_eq, dLc_eq, dDc_eq, dLc2_eq, deref_non, deref_bl, deref_int, deref_str, deref_ty, deref_lst, deref_tup, deref_dct, deref_ins, deref_glob, deref_scr, deref_exc, deref_cell, truth_non, truth_bl, truth_int, truth_lst, truth_tup, truth_str, tagOf_non, tagOf_bl, tagOf_int, tagOf_str, tagOf_lst, tagOf_scr, tagOf_tup, tagOf_dct, tagOf_ins, toKey_int, toKey_str, isNon_non, isNon_bl, isNon_int, isNon_str, isNon_ty, isNon_lst, isNon_tup, isNon_dct, isNon_ins, isNon_glob, isNon_scr, isNon_exc, bodyS, startE, dSeq, dNext, dIfS, dRet, dRetO, dRetV, dRetN, dDrop, dBreak, dCont, dTest, dTru, dAnd, dOr, dNot, dAndV, dOrV, dNotV, dIfE, dChain, xC1, xC2, dOp, dC, dVar, xVar, takeV, om, omP, oV, xV, okSl, oE, daNil, daCons, drNil, drCons, dLst, dTup, dDct, vw, vws, look, dAsg, dgName, dgNil, dgCons, dgTup, dgSub, dSetO, dSetL, dPar, dPar3, dParOO, dParOF, dParFO, dYes, dNeg, dDGet, dDIn, dSl, dpNo, dpSome, dFld, dSFld, dCon, dCc, xFmt, fmtT, xFstr, jNil, jCons, joinT, seqT, xCallF, xCallO, xMeth, xMethO, Rt.val, Rt.isOw, dMake, dBox, dRaise1, dRaise2, dAppend, dExtend, dPopAt, dPop, dTmpAppend, dTmpPop, dDPut, dDPop1, xLk, xLkLc, lkM, lkOn, lkOff, lkOk, lkX, dIsi, xSort, sortP, dInO, dLenO, dEqO, dXf, dIsX, daKw, seeI, seeL, upto, uptoT, cellT, ansB, ansI, gI0, gIC, gSub', gFdiv, gMod, gPow, gLt, gLe, gGt, gGe, xAdd, addT, xMul, mulT, xEq, xIn, negB, inT, sign1_eq, gIs, gIsNot, xIx, ixT, ixC, gSlS, xSlL, slLT, gSlT, xF1, lenT, gAbs, gMax2, gMin2, int1T, gDivmod, bool1T, str1T, gAll, gAny, gSum, listT, tupleT, dictT, gRepr, gEqK, gAddL, wiped, wipeE, unw, unE, diL, diT, diS, diR1, diR2, diE, diK, diI, diV, xZ, zipO, diZK, diZV, zMapC, zMapN, zAppC, zAppN, zRepS, zRep0, zGet0, zGetS, zSet0, zSetS, zLenN, zLenC, zOMap, zONone, Nat.reduceAdd, Nat.reduceSub])
local macro_rules | `(tactic| fail "wp s") => `(tactic| simp only [gP_nil, gP_cons, is_NoneType_bool, is_NoneType_int, is_NoneType_list, is_NoneType_str, is_NoneType_tuple, is_bool_bool, is_bool_int, is_bool_list, is_bool_str, is_bool_tuple, is_dict_bool, is_dict_int, is_dict_list, is_dict_str, is_dict_tuple, is_int_bool, is_int_int, is_int_list, is_int_str, is_int_tuple, is_list_bool, is_list_int, is_list_list, is_list_str, is_list_tuple, is_str_bool, is_str_int, is_str_list, is_str_str, is_str_tuple, is_tuple_bool, is_tuple_int, is_tuple_list, is_tuple_str, is_tuple_tuple, ix_InvalidScript_HookError, ix_InvalidScript_StateError, cc_Boxes_MOST_VALUES, fl_Script, hd_InvalidScript_InvalidScript, xf_InvalidScript, ex_map, eqT_int, eqT_bl, eqT_str, inL_str, inL_strN, sign_inj, Nat.reduceAdd, Nat.reduceSub, Nat.reduceLeDiff, Nat.reduceLT, Nat.zero_lt_succ, Nat.succ_pos, if_true, if_false, Bool.false_eq_true, ite_true, ite_false, true_and, and_true, decide_eq_true_eq, decide_true, decide_false, exists_eq_left', exists_eq_left, T.str.injEq, T.int.injEq, T.bl.injEq, T.lst.injEq, T.tup.injEq, T.dct.injEq, T.cell.injEq, T.ins.injEq, exists_const, exists_and_left, Bool.not_true, Bool.not_false, eq_self, reduceIte, reduceCtorEq, Bool.not_eq_true', Bool.true_eq_false, and_false, false_and, exists_false, or_false, false_or, Option.some.injEq, List.getElem?_set_self, List.set_set, List.length_set, atI0, atI1, atI2, ixN0, ixN1, List.append_assoc, sizeLine_eq, Option.getD_some, List.map_cons, List.map_nil, List.cons_append, List.nil_append, List.append_nil, List.length_cons, List.length_nil, List.replicate, List.getElem?_cons_zero, List.getElem?_cons_succ, List.set_cons_zero, List.set_cons_succ, Nat.sub_self, *])
local macro_rules | `(tactic| fail "wp") => `(tactic| repeat (first | fail "wp d" | fail "wp s"))
local macro_rules | `(tactic| fail "hit") => `(tactic| (intro Q h; first | exact h | (fail "wp"; done) | (fail "wp"; first | exact h | exact ⟨by omega, h⟩ | exact ⟨⟨by omega, by omega⟩, h⟩)))

section
variable {P : Program} {w : World} {K : PySem.W.Frag} {mg : Str → Option Value} {base : Heap}
def f_is_label : DS := (dSeq (dAsg (dC (.str "abcdefghijklmnopqrstuvwxyz0123456789")) (dgName 1))
  (dSeq (dIfS (dOr (dNot (dTest (dIsi qIs (.inl "str") (xV 0)))) (dOr (dTest (dOp (xEq false) (oE (xC1 (xF1 lenT) (xV 0))) (oE (dC (.int 0))))) (dOr (dTest (dOp gGt (oE (xC1 (xF1 lenT) (xV 0))) (oE (dC (.int 8))))) (dTest (dOp (xIn true) (oE (dOp xIx (xV 0) (oE (dC (.int 0))))) (oE (dSl gSlS (xV 1) dpNo (dpSome (dC (.int 26))))))))))
  (dRet (dC (.bl false)))
  dNext)
  (dRet (xC1 gAll (oE (dLc (diS (xVar 0)) (dgName 2) dYes (dOp (xIn false) (xV 2) (xV 1)) [2]))))))

theorem ok_is_label (Φ : Facts P w K mg base) : Cal P w K mg base 3 "_law_is_label" P_is_label (spF K mg 1 (bodyS 3 f_is_label)) :=
  def_ok Φ.T_is_label sc_is_label fun fa cd A up s H Ek hr hG => by
    have tk := takes_of (X := cxOf (L2.CX P w) P w K mg base N_is_label "_law_is_label" (defScope s_is_label) fa cd A up s H Ek) (E := Ek) rfl rfl rfl rfl
    refine ⟨_, (pss_cons (ps_set (i := 1) sc_is_label.nd rfl (by first | exact Or.inl rfl | exact Or.inr rfl) pe_str)
      (pss_cons (ps_if (PW.pt (pw_or (pt_not (pt_val (pe_callB (isiC (K := K) rfl) (by rfl) Φ.B.isinstance (by decide +kernel) (pa_cons (pv 0) (pa_cons (pe_bltn (v := .ty "str") (u := .type "str") (by rfl) Φ.B.str (by decide +kernel) rfl) pa_nil))))) (pw_or (pt_cmpR (eqO (K := K) rfl (units65 hr)) (pe_callB (lenQc (K := K) rfl) (by rfl) Φ.B.len (by decide +kernel) (pa_cons (pv 0) pa_nil)) pe_int (nomark _)) (pw_or (pt_cmpR op_gt (pe_callB (lenQc (K := K) rfl) (by rfl) Φ.B.len (by decide +kernel) (pa_cons (pv 0) pa_nil)) pe_int (nomark _)) (pw_or1 (pt_cmpR (notInO (K := K) rfl (units65 hr)) (pe_ix (ixS (K := K) rfl) (pv 0) pe_int (fun _ _ => rfl)) (pe_slice sl_str (pv 1) po_none (po_some pe_int)) (by rfl)))))))
        (pss_one (ps_ret pe_bl))
        pss_nil)
      (pss_one (ps_ret (pe_callB (allC (K := K) rfl rfl) (by rfl) Φ.B.all (by decide +kernel) (pa_cons (pe_fz (pe_lc (own := [("_law_sign", 2)]) (g := gName 2) (tt := tYes) rfl sc_is_label.nd (pi_str (pe_fz (pv 0))) (blkOk_by (N := N_is_label) (sc := defScope s_is_label) (by decide +kernel)) (fun _ _ _ _ _ => (pg_name (i := 2) sc_is_label.nd rfl (by first | exact Or.inl rfl | exact Or.inr rfl))) (fun _ _ _ _ _ => pts_nil) (fun _ _ _ _ _ => (pe_cmpR (inO (K := K) rfl (units65 hr)) (pv 2) (pv 1) (by rfl))))) pa_nil)))))), ?_⟩
    unfold f_is_label
    exact (snd_seq (snd_asg snd_str snd_gName)
      (snd_seq (snd_ifS (snd_or (snd_not (snd_tB (snd_isiB Φ.is snd_xV))) (snd_or (snd_test (snd_op os_xEq (snd_oE (snd_xC1 cs_xLen snd_xV)) (snd_oE snd_int))) (snd_or (snd_test (snd_op os_gt (snd_oE (snd_xC1 cs_xLen snd_xV)) (snd_oE snd_int))) (snd_test (snd_op os_xNotIn (snd_oE (snd_op os_xIx snd_xV (snd_oE snd_int))) (snd_oE (snd_sl os_slS snd_xV snd_pNo (snd_pSome snd_int))))))))
        (snd_ret snd_bl)
        snd_next)
      (snd_ret (snd_xC1 cs_all (snd_oE (snd_fz (snd_lc (snd_iStr snd_xVar) (snd_wName (by decide)) snd_yes (snd_op os_xIn snd_xV snd_xV))))))))

def S_is_label : SpecT := fun ts st P X => ∃ (t : T) (n w : Nat), ts = [t] ∧ Tx n w t ∧ w ≤ 100000 ∧ P (.fr (.bl (nameT t))) st
theorem c_is_label (Φ : Facts P w K mg base) : Cal P w K mg base 3 "_law_is_label" P_is_label (spF K mg 1 S_is_label) := (ok_is_label Φ).impF <|  by
  rintro ts st P X ⟨t, n, m, rfl, ht, hm, q⟩
  unfold f_is_label
  cases ht.kd
  case str z hz =>
    have hz : z.length ≤ sizeLine := by rw [sizeLine_eq]; omega
    have hz2 := hz
    rw [sizeLine_eq] at hz2
    fail "wp"
    have hs26 := cs_signs26
    by_cases h0 : (z.length : Int) = 0
    · rw [if_pos h0]
      rw [show nameT (.str z) = false from name_short (by omega)] at q
      exact q
    rw [if_neg h0]
    by_cases h8 : (8 : Int) < z.length
    · rw [if_pos h8]
      rw [show nameT (.str z) = false from name_long (by omega)] at q
      exact q
    rw [if_neg h8]
    cases e : cs z with
    | nil => have := cs_len z; rw [e] at this; exact absurd this (by simp; omega)
    | cons c r =>
      refine ⟨c, atI0, by decide +kernel, ?_⟩
      rw [show cs (cutS (Str.ofString "abcdefghijklmnopqrstuvwxyz0123456789") none (some 26)) = letters from cs_signs26]
      by_cases hc : c ∈ letters
      · rw [if_neg (by rw [decide_eq_true hc]; decide)]
        refine dLcB_map (fun t => match t with
          | .str s => .bl (decide (s.cps.toList.headD 0 ∈ alnum))
          | _ => .non) (by rw [signs_len]; exact hz) (fun t Q ht h => ?_) ?_
        · obtain ⟨c, hc, rfl⟩ := List.mem_map.mp ht
          fail "wp"
          rw [alnum_cs]
          exact h _ rfl
        · fail "wp"
          refine ⟨_, toBs_map (cs z) (fun c => decide (c ∈ alnum)) ?_, ?_⟩
          · unfold signsT
            rw [List.map_map]
            rfl
          · rw [show nameT (.str z) = nameB z from rfl, name_mid e (by omega) (by omega) (by rw [letters_cs]; exact hc)] at q
            exact q
      · rw [if_pos (by rw [decide_eq_false hc])]
        rw [show nameT (.str z) = false from name_first e (by rw [letters_cs]; exact hc)] at q
        exact q
  all_goals
    rw [show nameT _ = false from rfl] at q
    fail "wp"
def f_is_act : DS := (dSeq (dIfS (dOr (dNot (dTest (dIsi qIs (.inl "tuple") (xV 0)))) (dOr (dTest (dOp (xEq false) (oE (xC1 (xF1 lenT) (xV 0))) (oE (dC (.int 0))))) (dNot (dTest (dIsi qIs (.inl "str") (oE (dOp xIx (xV 0) (oE (dC (.int 0))))))))))
  (dRet (dC (.bl false)))
  dNext)
  (dSeq (dIfS (dTest (dOp (xEq false) (oE (dOp xIx (xV 0) (oE (dC (.int 0))))) (oE (dC (.str "lend")))))
  (dRet (dAndV (dOp (xEq false) (oE (xC1 (xF1 lenT) (xV 0))) (oE (dC (.int 3)))) (dAndV (xCallF 1 S_is_name (daCons (dOp xIx (xV 0) (oE (dC (.int 1)))) daNil)) (xCallF 2 S_is_below (daCons (dOp xIx (xV 0) (oE (dC (.int 2)))) (daCons (dCc qCc "Boxes" "MOST_VALUES") daNil))))))
  dNext)
  (dSeq (dIfS (dTest (dOp (xEq false) (oE (dOp xIx (xV 0) (oE (dC (.int 0))))) (oE (dC (.str "door")))))
  (dRet (dAndV (dOp (xEq false) (oE (xC1 (xF1 lenT) (xV 0))) (oE (dC (.int 2)))) (xCallF 1 S_is_name (daCons (dOp xIx (xV 0) (oE (dC (.int 1)))) daNil))))
  dNext)
  (dRet (dAndV (dOp (xEq false) (oE (xC1 (xF1 lenT) (xV 0))) (oE (dC (.int 1)))) (dOp (xIn false) (oE (dOp xIx (xV 0) (oE (dC (.int 0))))) (oE (dC (.tup [.str "look", .str "inner", .str "swallow", .str "answer", .str "skip", .str "fail"])))))))))

theorem ok_is_act (Φ : Facts P w K mg base) : CalL P w K mg base 9 "is_act" P_is_act (spF K mg 1 (bodyS 1 f_is_act)) :=
  def_okL Φ.T_is_act sc_is_act fun fa cd A up s H Ek hr hG => by
    obtain ⟨C_Boxes, g_Boxes⟩ := Φ.g_Boxes
    obtain ⟨A_PLAIN_ACTS, ga_PLAIN_ACTS, ha_PLAIN_ACTS⟩ := Φ.kt_PLAIN_ACTS
    have tk := takes_of (X := cxOf (L2.CX P w) P w K mg base N_is_act "is_act" (defScope s_is_act) fa cd A up s H Ek) (E := Ek) rfl rfl rfl rfl
    refine ⟨_, (pss_cons (ps_if (PW.pt (pw_or (pt_not (pt_val (pe_callB (isiC (K := K) rfl) (by rfl) Φ.B.isinstance (by decide +kernel) (pa_cons (pv 0) (pa_cons (pe_bltn (v := .ty "tuple") (u := .type "tuple") (by rfl) Φ.B.tuple (by decide +kernel) rfl) pa_nil))))) (pw_or (pt_cmpR (eqO (K := K) rfl (units65 hr)) (pe_callB (lenQc (K := K) rfl) (by rfl) Φ.B.len (by decide +kernel) (pa_cons (pv 0) pa_nil)) pe_int (nomark _)) (pw_or1 (pt_not (pt_val (pe_callB (isiC (K := K) rfl) (by rfl) Φ.B.isinstance (by decide +kernel) (pa_cons (pe_ix (ixS (K := K) rfl) (pv 0) pe_int (fun _ _ => rfl)) (pa_cons (pe_bltn (v := .ty "str") (u := .type "str") (by rfl) Φ.B.str (by decide +kernel) rfl) pa_nil)))))))))
        (pss_one (ps_ret pe_bl))
        pss_nil)
      (pss_cons (ps_if (pt_cmpR (eqO (K := K) rfl (units65 hr)) (pe_ix (ixS (K := K) rfl) (pv 0) pe_int (fun _ _ => rfl)) pe_str (nomark _))
        (pss_one (ps_ret (pe_and (pe_cmpR (eqO (K := K) rfl (units65 hr)) (pe_callB (lenQc (K := K) rfl) (by rfl) Φ.B.len (by decide +kernel) (pa_cons (pv 0) pa_nil)) pe_int (nomark _)) (pe_and (pe_fz (pe_cs (c_is_name Φ) (hr.mono (by decide)) hG (by rfl) (passAt tk) (pa_cons (pe_ix (ixS (K := K) rfl) (pv 0) pe_int (fun _ _ => rfl)) pa_nil))) (pe_one (pe_fz (pe_cs (c_is_below Φ) (hr.mono (by decide)) hG (by rfl) (passAt tk) (pa_cons (pe_ix (ixS (K := K) rfl) (pv 0) pe_int (fun _ _ => rfl)) (pa_cons (cvK (K := K) rfl (pe_glob (v := .ref C_Boxes) (by rfl) g_Boxes rfl)) pa_nil)))))))))
        pss_nil)
      (pss_cons (ps_if (pt_cmpR (eqO (K := K) rfl (units65 hr)) (pe_ix (ixS (K := K) rfl) (pv 0) pe_int (fun _ _ => rfl)) pe_str (nomark _))
        (pss_one (ps_ret (pe_and (pe_cmpR (eqO (K := K) rfl (units65 hr)) (pe_callB (lenQc (K := K) rfl) (by rfl) Φ.B.len (by decide +kernel) (pa_cons (pv 0) pa_nil)) pe_int (nomark _)) (pe_one (pe_fz (pe_cs (c_is_name Φ) (hr.mono (by decide)) hG (by rfl) (passAt tk) (pa_cons (pe_ix (ixS (K := K) rfl) (pv 0) pe_int (fun _ _ => rfl)) pa_nil)))))))
        pss_nil)
      (pss_one (ps_ret (pe_and (pe_cmpR (eqO (K := K) rfl (units65 hr)) (pe_callB (lenQc (K := K) rfl) (by rfl) Φ.B.len (by decide +kernel) (pa_cons (pv 0) pa_nil)) pe_int (nomark _)) (pe_one (pe_cmpR (inO (K := K) rfl (units65 hr)) (pe_ix (ixS (K := K) rfl) (pv 0) pe_int (fun _ _ => rfl)) (pe_glob (v := .ref A_PLAIN_ACTS) (by rfl) ga_PLAIN_ACTS rfl) (by rfl))))))))), ?_⟩
    unfold f_is_act
    exact (snd_seq (snd_ifS (snd_or (snd_not (snd_tB (snd_isiB Φ.is snd_xV))) (snd_or (snd_test (snd_op os_xEq (snd_oE (snd_xC1 cs_xLen snd_xV)) (snd_oE snd_int))) (snd_not (snd_tB (snd_isiB Φ.is (snd_oE (snd_op os_xIx snd_xV (snd_oE snd_int))))))))
        (snd_ret snd_bl)
        snd_next)
      (snd_seq (snd_ifS (snd_test (snd_op os_xEq (snd_oE (snd_op os_xIx snd_xV (snd_oE snd_int))) (snd_oE snd_str)))
        (snd_ret (snd_andV (snd_op os_xEq (snd_oE (snd_xC1 cs_xLen snd_xV)) (snd_oE snd_int)) (snd_andV (snd_xCallF (snd_cons (snd_op os_xIx snd_xV (snd_oE snd_int)) snd_nil)) (snd_xCallF (snd_cons (snd_op os_xIx snd_xV (snd_oE snd_int)) (snd_cons (snd_cc Φ.cc g_Boxes) snd_nil))))))
        snd_next)
      (snd_seq (snd_ifS (snd_test (snd_op os_xEq (snd_oE (snd_op os_xIx snd_xV (snd_oE snd_int))) (snd_oE snd_str)))
        (snd_ret (snd_andV (snd_op os_xEq (snd_oE (snd_xC1 cs_xLen snd_xV)) (snd_oE snd_int)) (snd_xCallF (snd_cons (snd_op os_xIx snd_xV (snd_oE snd_int)) snd_nil))))
        snd_next)
      (snd_ret (snd_andV (snd_op os_xEq (snd_oE (snd_xC1 cs_xLen snd_xV)) (snd_oE snd_int)) (snd_op os_xIn (snd_oE (snd_op os_xIx snd_xV (snd_oE snd_int))) (snd_oE (snd_ct ha_PLAIN_ACTS))))))))

def S_is_act : SpecT := fun ts st P X => ∃ (t : T) (n w : Nat), ts = [t] ∧ Tx n w t ∧ w ≤ 100000 ∧ P (.fr (.bl (actB t))) st
theorem plain_in (z : Str) : inL [.str "look", .str "inner", .str "swallow", .str "answer", .str "skip", .str "fail"] (.str z) = some (decide (z ∈ plainL)) := inL_str (xs := plainL)
theorem cl_is_act (Φ : Facts P w K mg base) : CalL P w K mg base 9 "is_act" P_is_act (spF K mg 1 S_is_act) := (ok_is_act Φ).impF <| by
  rintro ts st P X ⟨t, n, m, rfl, ht, hm, q⟩
  unfold f_is_act
  have k0 : ((0 : Nat) : Int) = 0 := rfl
  have k1 : ((1 : Nat) : Int) = 1 := rfl
  have k2 : ((2 : Nat) : Int) = 2 := rfl
  have k3 : ((3 : Nat) : Int) = 3 := rfl
  have hld : ((Str.ofString "lend" : Str) = Str.ofString "door") = False := eq_false (by decide +kernel)
  have hdl : ((Str.ofString "door" : Str) = Str.ofString "lend") = False := eq_false (by decide +kernel)
  cases ht.kd
  case tup ts =>
    have hts := ht.tupI
    cases ts with
    | nil => rw [show actB _ = false from rfl] at q; fail "wp"
    | cons x r =>
      cases (hts x (.head _)).kd
      case str z hz =>
        have hp := plain_in z
        unfold actB at q
        dsimp only at q
        by_cases h1 : z = "lend"
        · subst h1
          rw [if_pos rfl] at q
          clear hp
          match r with
          | [] => dsimp only at q; fail "wp" <;> simp
          | [a] => dsimp only at q; fail "wp" <;> simp
          | [a, b] =>
            dsimp only at q
            have ha := hts a (.tail _ (.head _))
            have hb := hts b (.tail _ (.tail _ (.head _)))
            clear hts
            fail "wp"
            refine ⟨a, n, m, rfl, ha, hm, ?_⟩
            cases e : nameT a with
            | false => rw [e, Bool.false_and] at q; fail "wp"
            | true =>
              rw [e, Bool.true_and] at q
              fail "wp"
              exact ⟨b, 4, n, m, rfl, hb, q⟩
          | a :: b :: c :: r' =>
            dsimp only at q
            have l0 : ¬ ((r'.length + 1 + 1 + 1 + 1 : Nat) : Int) = 0 := by omega
            have l3 : ¬ ((r'.length + 1 + 1 + 1 + 1 : Nat) : Int) = 3 := by omega
            fail "wp"
        by_cases h2 : z = "door"
        · subst h2
          rw [if_neg h1, if_pos rfl] at q
          clear hp h1
          match r with
          | [] => dsimp only at q; fail "wp" <;> simp
          | [a] =>
            dsimp only at q
            have ha := hts a (.tail _ (.head _))
            clear hts
            fail "wp"
            exact ⟨a, n, m, rfl, ha, hm, q⟩
          | a :: b :: r' =>
            dsimp only at q
            have l0 : ¬ ((r'.length + 1 + 1 + 1 : Nat) : Int) = 0 := by omega
            have l3 : ¬ ((r'.length + 1 + 1 + 1 : Nat) : Int) = 2 := by omega
            fail "wp"
        · rw [if_neg h1, if_neg h2] at q
          clear hts
          match r with
          | [] =>
            rw [show (decide (([] : List T).length = 0) && decide (z ∈ plainL)) = decide (z ∈ plainL) from rfl] at q
            fail "wp" <;> simp
          | a :: r' =>
            rw [show (decide ((a :: r').length = 0) && decide (z ∈ plainL)) = false from rfl] at q
            have l0 : ¬ ((r'.length + 1 + 1 : Nat) : Int) = 0 := by omega
            have l3 : ¬ ((r'.length + 1 + 1 : Nat) : Int) = 1 := by omega
            fail "wp"
      all_goals
        rw [show actB _ = false from rfl] at q
        have l0 : ¬ ((r.length + 1 : Nat) : Int) = 0 := by omega
        fail "wp"
  all_goals
    rw [show actB _ = false from rfl] at q
    fail "wp"
theorem c_is_act (Φ : Facts P w K mg base) : Cal P w K mg base 9 "is_act" P_is_act (spF K mg 1 S_is_act) := (cl_is_act Φ).cal
theorem K_is_act_0_value (Φ : Facts P w K mg base) : CalK P w K mg base 9 "is_act" 0 ["value"] [0] (spF K mg 1 S_is_act) := (cl_is_act Φ).kw Φ.T_is_act 0 ["value"] [0] (by
    intro kV doc pm an cdv ct us ws h1 h2
    match us, ws, h1, h2 with
    | [], [_], _, _ => rfl)
def f_l_is_act : DS := (dSeq (dIfS (dOr (dNot (dTest (dIsi qIs (.inl "tuple") (xV 0)))) (dOr (dTest (dOp (xEq false) (oE (xC1 (xF1 lenT) (xV 0))) (oE (dC (.int 0))))) (dNot (dTest (dIsi qIs (.inl "str") (oE (dOp xIx (xV 0) (oE (dC (.int 0))))))))))
  (dRet (dC (.bl false)))
  dNext)
  (dSeq (dIfS (dTest (dOp (xEq false) (oE (dOp xIx (xV 0) (oE (dC (.int 0))))) (oE (dC (.str "door")))))
  (dRet (dAndV (dOp (xEq false) (oE (xC1 (xF1 lenT) (xV 0))) (oE (dC (.int 2)))) (xCallF 1 S_is_label (daCons (dOp xIx (xV 0) (oE (dC (.int 1)))) daNil))))
  dNext)
  (dSeq (dIfS (dTest (dOp (xEq false) (oE (dOp xIx (xV 0) (oE (dC (.int 0))))) (oE (dC (.str "lend")))))
  (dSeq (dIfS (dOr (dTest (dOp (xEq true) (oE (xC1 (xF1 lenT) (xV 0))) (oE (dC (.int 3))))) (dNot (dTest (xCallF 1 S_is_label (daCons (dOp xIx (xV 0) (oE (dC (.int 1)))) daNil)))))
  (dRet (dC (.bl false)))
  dNext)
  (dRet (dAndV (dIsi qIs (.inl "int") (oE (dOp xIx (xV 0) (oE (dC (.int 2)))))) (dAndV (dNotV (dIsi qIs (.inl "bool") (oE (dOp xIx (xV 0) (oE (dC (.int 2))))))) (dChain gLe gLe (oE (dC (.int 0))) (oE (dOp xIx (xV 0) (oE (dC (.int 2))))) (oE (dC (.int 3))))))))
  dNext)
  (dRet (dAndV (dOp (xEq false) (oE (xC1 (xF1 lenT) (xV 0))) (oE (dC (.int 1)))) (dOp (xIn false) (oE (dOp xIx (xV 0) (oE (dC (.int 0))))) (oE (dTup (daCons (dC (.str "look")) (daCons (dC (.str "inner")) (daCons (dC (.str "swallow")) (daCons (dC (.str "answer")) (daCons (dC (.str "skip")) (daCons (dC (.str "fail")) daNil))))))))))))))

theorem ok_l_is_act (Φ : Facts P w K mg base) : Cal P w K mg base 5 "_law_is_act" P_l_is_act (spF K mg 1 (bodyS 1 f_l_is_act)) :=
  def_ok Φ.T_l_is_act sc_l_is_act fun fa cd A up s H Ek hr hG => by
    have tk := takes_of (X := cxOf (L2.CX P w) P w K mg base N_l_is_act "_law_is_act" (defScope s_l_is_act) fa cd A up s H Ek) (E := Ek) rfl rfl rfl rfl
    refine ⟨_, (pss_cons (ps_if (PW.pt (pw_or (pt_not (pt_val (pe_callB (isiC (K := K) rfl) (by rfl) Φ.B.isinstance (by decide +kernel) (pa_cons (pv 0) (pa_cons (pe_bltn (v := .ty "tuple") (u := .type "tuple") (by rfl) Φ.B.tuple (by decide +kernel) rfl) pa_nil))))) (pw_or (pt_cmpR (eqO (K := K) rfl (units65 hr)) (pe_callB (lenQc (K := K) rfl) (by rfl) Φ.B.len (by decide +kernel) (pa_cons (pv 0) pa_nil)) pe_int (nomark _)) (pw_or1 (pt_not (pt_val (pe_callB (isiC (K := K) rfl) (by rfl) Φ.B.isinstance (by decide +kernel) (pa_cons (pe_ix (ixS (K := K) rfl) (pv 0) pe_int (fun _ _ => rfl)) (pa_cons (pe_bltn (v := .ty "str") (u := .type "str") (by rfl) Φ.B.str (by decide +kernel) rfl) pa_nil)))))))))
        (pss_one (ps_ret pe_bl))
        pss_nil)
      (pss_cons (ps_if (pt_cmpR (eqO (K := K) rfl (units65 hr)) (pe_ix (ixS (K := K) rfl) (pv 0) pe_int (fun _ _ => rfl)) pe_str (nomark _))
        (pss_one (ps_ret (pe_and (pe_cmpR (eqO (K := K) rfl (units65 hr)) (pe_callB (lenQc (K := K) rfl) (by rfl) Φ.B.len (by decide +kernel) (pa_cons (pv 0) pa_nil)) pe_int (nomark _)) (pe_one (pe_fz (pe_cs (c_is_label Φ) (hr.mono (by decide)) hG (by rfl) (passAt tk) (pa_cons (pe_ix (ixS (K := K) rfl) (pv 0) pe_int (fun _ _ => rfl)) pa_nil)))))))
        pss_nil)
      (pss_cons (ps_if (pt_cmpR (eqO (K := K) rfl (units65 hr)) (pe_ix (ixS (K := K) rfl) (pv 0) pe_int (fun _ _ => rfl)) pe_str (nomark _))
        (pss_cons (ps_if (PW.pt (pw_or (pt_cmpR (neO (K := K) rfl (units65 hr)) (pe_callB (lenQc (K := K) rfl) (by rfl) Φ.B.len (by decide +kernel) (pa_cons (pv 0) pa_nil)) pe_int (nomark _)) (pw_or1 (pt_not (pt_val (pe_fz (pe_cs (c_is_label Φ) (hr.mono (by decide)) hG (by rfl) (passAt tk) (pa_cons (pe_ix (ixS (K := K) rfl) (pv 0) pe_int (fun _ _ => rfl)) pa_nil))))))))
        (pss_one (ps_ret pe_bl))
        pss_nil)
      (pss_one (ps_ret (pe_and (pe_callB (isiC (K := K) rfl) (by rfl) Φ.B.isinstance (by decide +kernel) (pa_cons (pe_ix (ixS (K := K) rfl) (pv 0) pe_int (fun _ _ => rfl)) (pa_cons (pe_bltn (v := .ty "int") (u := .type "int") (by rfl) Φ.B.int (by decide +kernel) rfl) pa_nil))) (pe_and (pe_not (pe_callB (isiC (K := K) rfl) (by rfl) Φ.B.isinstance (by decide +kernel) (pa_cons (pe_ix (ixS (K := K) rfl) (pv 0) pe_int (fun _ _ => rfl)) (pa_cons (pe_bltn (v := .ty "bool") (u := .type "bool") (by rfl) Φ.B.bool (by decide +kernel) rfl) pa_nil)))) (pe_one (pe_chain op_le op_le pe_int (pe_ix (ixS (K := K) rfl) (pv 0) pe_int (fun _ _ => rfl)) pe_int)))))))
        pss_nil)
      (pss_one (ps_ret (pe_and (pe_cmpR (eqO (K := K) rfl (units65 hr)) (pe_callB (lenQc (K := K) rfl) (by rfl) Φ.B.len (by decide +kernel) (pa_cons (pv 0) pa_nil)) pe_int (nomark _)) (pe_one (pe_cmpR (inO (K := K) rfl (units65 hr)) (pe_ix (ixS (K := K) rfl) (pv 0) pe_int (fun _ _ => rfl)) (pe_tup (pa_cons pe_str (pa_cons pe_str (pa_cons pe_str (pa_cons pe_str (pa_cons pe_str (pa_cons pe_str pa_nil))))))) (by rfl))))))))), ?_⟩
    unfold f_l_is_act
    exact (snd_seq (snd_ifS (snd_or (snd_not (snd_tB (snd_isiB Φ.is snd_xV))) (snd_or (snd_test (snd_op os_xEq (snd_oE (snd_xC1 cs_xLen snd_xV)) (snd_oE snd_int))) (snd_not (snd_tB (snd_isiB Φ.is (snd_oE (snd_op os_xIx snd_xV (snd_oE snd_int))))))))
        (snd_ret snd_bl)
        snd_next)
      (snd_seq (snd_ifS (snd_test (snd_op os_xEq (snd_oE (snd_op os_xIx snd_xV (snd_oE snd_int))) (snd_oE snd_str)))
        (snd_ret (snd_andV (snd_op os_xEq (snd_oE (snd_xC1 cs_xLen snd_xV)) (snd_oE snd_int)) (snd_xCallF (snd_cons (snd_op os_xIx snd_xV (snd_oE snd_int)) snd_nil))))
        snd_next)
      (snd_seq (snd_ifS (snd_test (snd_op os_xEq (snd_oE (snd_op os_xIx snd_xV (snd_oE snd_int))) (snd_oE snd_str)))
        (snd_seq (snd_ifS (snd_or (snd_test (snd_op os_xNe (snd_oE (snd_xC1 cs_xLen snd_xV)) (snd_oE snd_int))) (snd_not (snd_tB (snd_xCallF (snd_cons (snd_op os_xIx snd_xV (snd_oE snd_int)) snd_nil)))))
        (snd_ret snd_bl)
        snd_next)
      (snd_ret (snd_andV (snd_isiB Φ.is (snd_oE (snd_op os_xIx snd_xV (snd_oE snd_int)))) (snd_andV (snd_notV (snd_isiB Φ.is (snd_oE (snd_op os_xIx snd_xV (snd_oE snd_int))))) (snd_chain os_le os_le (snd_oE snd_int) (snd_oE (snd_op os_xIx snd_xV (snd_oE snd_int))) (snd_oE snd_int))))))
        snd_next)
      (snd_ret (snd_andV (snd_op os_xEq (snd_oE (snd_xC1 cs_xLen snd_xV)) (snd_oE snd_int)) (snd_op os_xIn (snd_oE (snd_op os_xIx snd_xV (snd_oE snd_int))) (snd_oE (snd_tup (snd_cons snd_str (snd_cons snd_str (snd_cons snd_str (snd_cons snd_str (snd_cons snd_str (snd_cons snd_str snd_nil))))))))))))))

def S_l_is_act : SpecT := fun ts st P X => ∃ (t : T) (n w : Nat), ts = [t] ∧ Tx n w t ∧ w ≤ 100000 ∧ P (.fr (.bl (actB t))) st
theorem c_l_is_act (Φ : Facts P w K mg base) : Cal P w K mg base 5 "_law_is_act" P_l_is_act (spF K mg 1 S_l_is_act) := (ok_l_is_act Φ).impF <|  by
  rintro ts st P X ⟨t, n, m, rfl, ht, hm, q⟩
  unfold f_l_is_act
  have k0 : ((0 : Nat) : Int) = 0 := rfl
  have k1 : ((1 : Nat) : Int) = 1 := rfl
  have k2 : ((2 : Nat) : Int) = 2 := rfl
  have k3 : ((3 : Nat) : Int) = 3 := rfl
  have hld : ((Str.ofString "lend" : Str) = Str.ofString "door") = False := eq_false (by decide +kernel)
  have hdl : ((Str.ofString "door" : Str) = Str.ofString "lend") = False := eq_false (by decide +kernel)
  cases ht.kd
  case tup ts =>
    have hts := ht.tupI
    cases ts with
    | nil => rw [show actB _ = false from rfl] at q; fail "wp"
    | cons x r =>
      cases (hts x (.head _)).kd
      case str z hz =>
        have hp := plain_in z
        unfold actB at q
        dsimp only at q
        by_cases h1 : z = "lend"
        · subst h1
          rw [if_pos rfl] at q
          clear hp
          match r with
          | [] => dsimp only at q; fail "wp" <;> simp
          | [a] => dsimp only at q; fail "wp" <;> simp
          | [a, b] =>
            dsimp only at q
            have ha := hts a (.tail _ (.head _))
            have hb := hts b (.tail _ (.tail _ (.head _)))
            clear hts
            fail "wp"
            refine ⟨a, n, m, rfl, ha, hm, ?_⟩
            cases e : nameT a with
            | false => rw [e, Bool.false_and] at q; fail "wp"
            | true =>
              rw [e, Bool.true_and] at q
              cases hb.kd <;> (unfold belowT at q; fail "wp")
              rename_i i
              dsimp only at q
              rw [show decide (i ≤ 3) = decide (i < 4) from decide_eq_decide.mpr (by omega)]
              by_cases h : 0 ≤ i
              · rw [if_pos h]
                rw [show (decide (0 ≤ i) && decide (i < 4)) = decide (i < 4) by rw [decide_eq_true h, Bool.true_and]] at q
                exact q
              · rw [if_neg h]
                rw [show (decide (0 ≤ i) && decide (i < 4)) = false by rw [decide_eq_false h, Bool.false_and]] at q
                exact q
          | a :: b :: c :: r' =>
            dsimp only at q
            have l0 : ¬ ((r'.length + 1 + 1 + 1 + 1 : Nat) : Int) = 0 := by omega
            have l3 : ¬ ((r'.length + 1 + 1 + 1 + 1 : Nat) : Int) = 3 := by omega
            fail "wp"
        by_cases h2 : z = "door"
        · subst h2
          rw [if_neg h1, if_pos rfl] at q
          clear hp h1
          match r with
          | [] => dsimp only at q; fail "wp" <;> simp
          | [a] =>
            dsimp only at q
            have ha := hts a (.tail _ (.head _))
            clear hts
            fail "wp"
            exact ⟨a, n, m, rfl, ha, hm, q⟩
          | a :: b :: r' =>
            dsimp only at q
            have l0 : ¬ ((r'.length + 1 + 1 + 1 : Nat) : Int) = 0 := by omega
            have l3 : ¬ ((r'.length + 1 + 1 + 1 : Nat) : Int) = 2 := by omega
            fail "wp"
        · rw [if_neg h1, if_neg h2] at q
          clear hts
          match r with
          | [] =>
            rw [show (decide (([] : List T).length = 0) && decide (z ∈ plainL)) = decide (z ∈ plainL) from rfl] at q
            fail "wp" <;> simp
          | a :: r' =>
            rw [show (decide ((a :: r').length = 0) && decide (z ∈ plainL)) = false from rfl] at q
            have l0 : ¬ ((r'.length + 1 + 1 : Nat) : Int) = 0 := by omega
            have l3 : ¬ ((r'.length + 1 + 1 : Nat) : Int) = 1 := by omega
            fail "wp"
      all_goals
        rw [show actB _ = false from rfl] at q
        have l0 : ¬ ((r.length + 1 : Nat) : Int) = 0 := by omega
        fail "wp"
  all_goals
    rw [show actB _ = false from rfl] at q
    fail "wp"
end
end Fu
set_option Elab.async false
set_option linter.all false
set_option maxRecDepth 100000
set_option maxHeartbeats 4000000
namespace Fu
open PySem PySem.Spec PyProof.Rows L2 Hv
local macro_rules | `(tactic| fail "wp d") => `(tactic| dsimp only [dMk1, dMk2, dMk2r, dMk0, dXv, dIsV, dDisp, dTryC, clAs, clO, clNil, dRaise0, dIsiT, dIsXT, gReprQ, deref_ev, dMakeS, dProp, dRevT, dUp, consO, dFor_eq, dLc_eq, dDc_eq, dLc2_eq, deref_non, deref_bl, deref_int, deref_str, deref_ty, deref_lst, deref_tup, deref_dct, deref_ins, deref_glob, deref_scr, deref_exc, deref_cell, truth_non, truth_bl, truth_int, truth_lst, truth_tup, truth_str, tagOf_non, tagOf_bl, tagOf_int, tagOf_str, tagOf_lst, tagOf_scr, tagOf_tup, tagOf_dct, tagOf_ins, toKey_int, toKey_str, isNon_non, isNon_bl, isNon_int, isNon_str, isNon_ty, isNon_lst, isNon_tup, isNon_dct, isNon_ins, isNon_glob, isNon_scr, isNon_exc, bodyS, startE, dSeq, dNext, dIfS, dRet, dRetO, dRetV, dRetN, dDrop, dBreak, dCont, dTest, dTru, dAnd, dOr, dNot, dAndV, dOrV, dNotV, dIfE, dChain, xC1, xC2, dOp, dC, dVar, xVar, takeV, om, omP, oV, xV, okSl, oE, daNil, daCons, drNil, drCons, dLst, dTup, dDct, vw, vws, look, dAsg, dgName, dgNil, dgCons, dgTup, dgSub, dSetO, dSetL, dPar, dPar3, dParOO, dParOF, dParFO, dYes, dNeg, dDGet, dDIn, dSl, dpNo, dpSome, dFld, dSFld, dCon, dCc, xFmt, fmtT, xFstr, jNil, jCons, joinT, seqT, xCallF, xCallO, xMeth, xMethO, Rt.val, Rt.isOw, dMake, dBox, dRaise1, dRaise2, dAppend, dExtend, dPopAt, dPop, dTmpAppend, dTmpPop, dDPut, dDPop1, xLk, xLkLc, lkM, lkOn, lkOff, lkOk, lkX, dIsi, xSort, sortP, dInO, dLenO, dEqO, dXf, dIsX, daKw, seeI, seeL, upto, uptoT, cellT, ansB, ansI, gI0, gIC, gSub', gFdiv, gMod, gPow, gLt, gLe, gGt, gGe, xAdd, addT, xMul, mulT, xEq, xIn, negB, inT, sign1_eq, gIs, gIsNot, xIx, ixT, ixC, gSlS, xSlL, slLT, gSlT, xF1, lenT, gAbs, gMax2, gMin2, int1T, gDivmod, bool1T, str1T, gAll, gAny, gSum, listT, tupleT, dictT, gRepr, gEqK, gAddL, wiped, wipeE, unw, unE, diL, diT, diS, diR1, diR2, diE, diK, diI, diV, xZ, zipO, diZK, diZV, zMapC, zMapN, zAppC, zAppN, zRepS, zRep0, zGet0, zGetS, zSet0, zSetS, zLenN, zLenC, zOMap, zONone, Nat.reduceAdd, Nat.reduceSub])
local macro_rules | `(tactic| fail "wp s") => `(tactic| simp only [gP_nil, gP_cons, is_NoneType_bool, is_NoneType_int, is_NoneType_list, is_NoneType_str, is_NoneType_tuple, is_bool_bool, is_bool_int, is_bool_list, is_bool_str, is_bool_tuple, is_dict_bool, is_dict_int, is_dict_list, is_dict_str, is_dict_tuple, is_int_bool, is_int_int, is_int_list, is_int_str, is_int_tuple, is_list_bool, is_list_int, is_list_list, is_list_str, is_list_tuple, is_str_bool, is_str_int, is_str_list, is_str_str, is_str_tuple, is_tuple_bool, is_tuple_int, is_tuple_list, is_tuple_str, is_tuple_tuple, ix_InvalidScript_HookError, ix_InvalidScript_StateError, cc_Boxes_MOST_VALUES, fl_Script, hd_InvalidScript_InvalidScript, xf_InvalidScript, ex_map, eqT_int, eqT_bl, eqT_str, inL_str, inL_strN, sign_inj, Nat.reduceAdd, Nat.reduceSub, Nat.reduceLeDiff, Nat.reduceLT, Nat.zero_lt_succ, Nat.succ_pos, if_true, if_false, Bool.false_eq_true, ite_true, ite_false, true_and, and_true, decide_eq_true_eq, decide_true, decide_false, exists_eq_left', exists_eq_left, T.str.injEq, T.int.injEq, T.bl.injEq, T.lst.injEq, T.tup.injEq, T.dct.injEq, T.cell.injEq, T.ins.injEq, exists_const, exists_and_left, Bool.not_true, Bool.not_false, eq_self, reduceIte, reduceCtorEq, Bool.not_eq_true', Bool.true_eq_false, and_false, false_and, exists_false, or_false, false_or, Option.some.injEq, List.getElem?_set_self, List.set_set, List.length_set, atI0, atI1, atI2, ixN0, ixN1, List.append_assoc, sizeLine_eq, Option.getD_some, List.map_cons, List.map_nil, List.cons_append, List.nil_append, List.append_nil, List.length_cons, List.length_nil, List.replicate, List.getElem?_cons_zero, List.getElem?_cons_succ, List.set_cons_zero, List.set_cons_succ, Nat.sub_self, *])
local macro_rules | `(tactic| fail "wp") => `(tactic| repeat (first | fail "wp d" | fail "wp s"))
local macro_rules | `(tactic| fail "hit") => `(tactic| (intro Q h; first | exact h | (fail "wp"; done) | (fail "wp"; first | exact h | exact ⟨by omega, h⟩ | exact ⟨⟨by omega, by omega⟩, h⟩)))

section
variable {P : Program} {w : World} {K : PySem.W.Frag} {mg : Str → Option Value} {base : Heap}
/-- an act: its word, its parts -/
structure ActOk (z : Str) (r : List T) : Prop where
  lo : 1 ≤ z.length
  hi : z.length ≤ 8
  ch : ∀ c ∈ cs z, c < 16 ^ 8
  len : r.length ≤ 2
  tx : ∀ t ∈ r, Tx 0 140 t
  act : actB (.tup (.str z :: r)) = true
theorem ActOk.items {z : Str} {r : List T} (h : ActOk z r) : ∀ t ∈ T.str z :: r, Tx 0 140 t := List.forall_mem_cons.mpr ⟨tx_str h.ch (Nat.le_trans h.hi (by decide)), h.tx⟩
theorem ActOk.t {z : Str} {r : List T} (h : ActOk z r) : Tx 1 423 (.tup (.str z :: r)) := tup_w (m := 3) h.items (Nat.succ_le_succ h.len)
theorem act_lit (z : Str) (h : (decide (1 ≤ z.length) && decide (z.length ≤ 8) && (cs z).all (fun c => decide (c < 16 ^ 8)) && actB (.tup [.str z])) = true) : ActOk z [] := by
  simp only [Bool.and_eq_true, decide_eq_true_eq, List.all_eq_true] at h
  exact ⟨h.1.1.1, h.1.1.2, h.1.2, Nat.zero_le _, (fun _ h => nomatch h), h.2⟩
theorem act_door {z : Str} (h : NameOk z) : ActOk "door" [.str z] := ⟨by decide, by decide, by decide +kernel, by simp, List.forall_mem_cons.mpr ⟨h.tx.le (Nat.le_refl _) (by decide), (fun _ h => nomatch h)⟩, by
  unfold actB
  dsimp only
  rw [if_neg (by decide +kernel), if_pos rfl]
  exact h.b⟩
theorem act_lend {z : Str} {i : Int} (h : NameOk z) (i0 : 0 ≤ i) (i1 : i < 4) : ActOk "lend" [.str z, .int i] := ⟨by decide, by decide, by decide +kernel, by simp, List.forall_mem_cons.mpr ⟨h.tx.le (Nat.le_refl _) (by decide), List.forall_mem_cons.mpr ⟨tx_int (by omega), (fun _ h => nomatch h)⟩⟩, by
  unfold actB
  dsimp only
  rw [if_pos rfl, show nameT (.str z) = true from h.b]
  show (true && (decide (0 ≤ i) && decide (i < 4))) = true
  rw [decide_eq_true i0, decide_eq_true i1]
  rfl⟩
def f_act : DS := (dSeq (dAsg (dLst (daCons (dTup (daCons (dC (.str "look")) daNil)) (daCons (dTup (daCons (dC (.str "inner")) daNil)) (daCons (dTup (daCons (dC (.str "swallow")) daNil)) (daCons (dTup (daCons (dC (.str "answer")) daNil)) (daCons (dTup (daCons (dC (.str "skip")) daNil)) (daCons (dTup (daCons (dC (.str "fail")) daNil)) daNil))))))) (dgName 1))
  (dSeq (dAsg (xCallF 2 S_draw (daCons (xVar 0) (daCons (dC (.int 10)) daNil))) (dgName 2))
  (dSeq (dIfS (dTest (dOp gLt (xV 2) (oE (dC (.int 6)))))
  (dRet (dOp xIx (xV 1) (xV 2)))
  dNext)
  (dSeq (dIfS (dTest (dOp gLt (xV 2) (oE (dC (.int 8)))))
  (dRet (dTup (daCons (dC (.str "door")) (daCons (xCallF 1 S_label (daCons (xVar 0) daNil)) daNil))))
  dNext)
  (dRet (dTup (daCons (dC (.str "lend")) (daCons (xCallF 1 S_label (daCons (xVar 0) daNil)) (daCons (xCallF 2 S_draw (daCons (xVar 0) (daCons (dC (.int 4)) daNil))) daNil)))))))))

theorem ok_act (Φ : Facts P w K mg base) : Cal P w K mg base 9 "_law_act" P_act (spF K mg 1 (bodyS 3 f_act)) :=
  def_ok Φ.T_act sc_act fun fa cd A up s H Ek hr hG => by
    have tk := takes_of (X := cxOf (L2.CX P w) P w K mg base N_act "_law_act" (defScope s_act) fa cd A up s H Ek) (E := Ek) rfl rfl rfl rfl
    refine ⟨_, (pss_cons (ps_set (i := 1) sc_act.nd rfl (by first | exact Or.inl rfl | exact Or.inr rfl) (pe_lst (pa_cons (pe_tup (pa_cons pe_str pa_nil)) (pa_cons (pe_tup (pa_cons pe_str pa_nil)) (pa_cons (pe_tup (pa_cons pe_str pa_nil)) (pa_cons (pe_tup (pa_cons pe_str pa_nil)) (pa_cons (pe_tup (pa_cons pe_str pa_nil)) (pa_cons (pe_tup (pa_cons pe_str pa_nil)) pa_nil))))))))
      (pss_cons (ps_set (i := 2) sc_act.nd rfl (by first | exact Or.inl rfl | exact Or.inr rfl) (pe_fz (pe_cs (c_draw Φ) (hr.mono (by decide)) hG (by rfl) (passAt tk) (pa_cons (pe_fz (pv 0)) (pa_cons pe_int pa_nil)))))
      (pss_cons (ps_if (pt_cmpR op_lt (pv 2) pe_int (nomark _))
        (pss_one (ps_ret (pe_ix (ixS (K := K) rfl) (pv 1) (pv 2) (fun _ _ => rfl))))
        pss_nil)
      (pss_cons (ps_if (pt_cmpR op_lt (pv 2) pe_int (nomark _))
        (pss_one (ps_ret (pe_tup (pa_cons pe_str (pa_cons (pe_fz (pe_cs (c_label Φ) (hr.mono (by decide)) hG (by rfl) (passAt tk) (pa_cons (pe_fz (pv 0)) pa_nil))) pa_nil)))))
        pss_nil)
      (pss_one (ps_ret (pe_tup (pa_cons pe_str (pa_cons (pe_fz (pe_cs (c_label Φ) (hr.mono (by decide)) hG (by rfl) (passAt tk) (pa_cons (pe_fz (pv 0)) pa_nil))) (pa_cons (pe_fz (pe_cs (c_draw Φ) (hr.mono (by decide)) hG (by rfl) (passAt tk) (pa_cons (pe_fz (pv 0)) (pa_cons pe_int pa_nil)))) pa_nil)))))))))), ?_⟩
    unfold f_act
    exact (snd_seq (snd_asg (snd_lst (snd_cons (snd_tup (snd_cons snd_str snd_nil)) (snd_cons (snd_tup (snd_cons snd_str snd_nil)) (snd_cons (snd_tup (snd_cons snd_str snd_nil)) (snd_cons (snd_tup (snd_cons snd_str snd_nil)) (snd_cons (snd_tup (snd_cons snd_str snd_nil)) (snd_cons (snd_tup (snd_cons snd_str snd_nil)) snd_nil))))))) snd_gName)
      (snd_seq (snd_asg (snd_xCallF (snd_cons snd_xVar (snd_cons snd_int snd_nil))) snd_gName)
      (snd_seq (snd_ifS (snd_test (snd_op os_lt snd_xV (snd_oE snd_int)))
        (snd_ret (snd_op os_xIx snd_xV snd_xV))
        snd_next)
      (snd_seq (snd_ifS (snd_test (snd_op os_lt snd_xV (snd_oE snd_int)))
        (snd_ret (snd_tup (snd_cons snd_str (snd_cons (snd_xCallF (snd_cons snd_xVar snd_nil)) snd_nil))))
        snd_next)
      (snd_ret (snd_tup (snd_cons snd_str (snd_cons (snd_xCallF (snd_cons snd_xVar snd_nil)) (snd_cons (snd_xCallF (snd_cons snd_xVar (snd_cons snd_int snd_nil))) snd_nil)))))))))

def S_act : SpecT := fun ts st P X => ∃ (k : Nat), ts = [.cell k] ∧ PotAt st k ∧ ∀ (z : Str) (r : List T) (b c : Int), ActOk z r → 0 ≤ c → c < 2147483648 → P (.fr (.tup (.str z :: r))) (potSt st k b c)
theorem c_act (Φ : Facts P w K mg base) : Cal P w K mg base 9 "_law_act" P_act (spF K mg 1 S_act) := (ok_act Φ).impF <|  by
  rintro ts st P X ⟨k, rfl, hp, q⟩
  have hk := hp.lt
  unfold f_act
  fail "wp"
  refine ⟨k, _, rfl, hp, by decide, by decide, fun d b c d0 d1 c0 c1 => ?_⟩
  have hp2 := potSt_at (b := b) (c := c) hk c0 c1
  fail "wp"
  split
  · obtain ⟨v, e, m⟩ := atI_mem (xs := [T.tup [.str "look"], .tup [.str "inner"], .tup [.str "swallow"], .tup [.str "answer"], .tup [.str "skip"], .tup [.str "fail"]]) d0 (by show d < 6; assumption)
    refine ⟨v, e, ?_⟩
    simp only [List.mem_cons, List.not_mem_nil, or_false] at m
    rcases m with rfl | rfl | rfl | rfl | rfl | rfl <;> exact q _ [] b c (act_lit _ (by decide +kernel)) c0 c1
  split
  · refine ⟨k, rfl, hp2, fun z b2 c2 hz e0 e1 => ?_⟩
    rw [potSt_set]
    fail "wp"
    exact q "door" [.str z] _ _ (act_door hz) e0 e1
  · refine ⟨k, rfl, hp2, fun z b2 c2 hz e0 e1 => ?_⟩
    rw [potSt_set]
    fail "wp"
    refine ⟨k, _, rfl, potSt_at hk e0 e1, by decide, by decide, fun i b3 c3 i0 i1 f0 f1 => ?_⟩
    rw [potSt_set]
    fail "wp"
    exact q "lend" [.str z, .int i] _ _ (act_lend hz i0 i1) f0 f1
/-! ## spoilt names -/
theorem upper_lt : ∀ (l : List Nat), (∀ c ∈ l, c < 128) → (∀ c ∈ cs (Txt.upper ⟨l.toArray⟩), c < 128) ∧ (Txt.upper ⟨l.toArray⟩).length = l.length
  | [], _ => ⟨by decide +kernel, by decide +kernel⟩
  | c :: l, h => by
    have e : (⟨(c :: l).toArray⟩ : Str) = ⟨#[c]⟩ ++ ⟨l.toArray⟩ := str_ext (by rw [cs_app]; rfl)
    obtain ⟨h1, h2⟩ := upper_lt l fun d hd => h d (.tail _ hd)
    rw [e, PySem.W.KOpn.upper_app, PySem.W.KOpn.upper_one (h c (.head _))]
    refine ⟨fun d hd => ?_, ?_⟩
    · rw [cs_app] at hd
      rcases List.mem_append.mp hd with hd | hd
      · have : d = if 97 ≤ c ∧ c ≤ 122 then c - 32 else c := by simpa [cs] using hd
        have := h c (.head _)
        subst d
        split <;> omega
      · exact h1 d hd
    · rw [cs_len, cs_app, List.length_append, ← cs_len (Txt.upper _), h2]
      show 1 + l.length = _
      rw [List.length_cons, Nat.add_comm]
theorem alnum_128 {c : Nat} (h : c ∈ alnum) : c < 128 := by
  have : ∀ c ∈ alnum, c < 128 := by decide +kernel
  exact this c h
theorem NameOk.up {z : Str} (h : NameOk z) : Tx 0 10 (.str (Txt.upper z)) := by
  obtain ⟨h1, h2⟩ := upper_lt (cs z) fun c hc => alnum_128 (h.all c hc)
  have e : (⟨(cs z).toArray⟩ : Str) = z := str_ext rfl
  rw [e] at h1 h2
  exact tx_str (fun c hc => Nat.lt_trans (h1 c hc) (by decide)) (by rw [h2]; have := h.hi; omega)
theorem cs_cut_mem {z : Str} {lo hi : Option Int} {c : Nat} (h : c ∈ cs (cutS z lo hi)) : c ∈ cs z := by
  have h : c ∈ ((z.cps.toList.drop (HT.sIx z.length 0 lo)).take (HT.sIx z.length z.length hi - HT.sIx z.length 0 lo)).toArray.toList := h
  rw [List.toList_toArray] at h
  exact List.mem_of_mem_drop (List.mem_of_mem_take h)
theorem cut_len (z : Str) (lo hi : Option Int) : (cutS z lo hi).length ≤ z.length := by
  show ((z.cps.toList.drop (HT.sIx z.length 0 lo)).take (HT.sIx z.length z.length hi - HT.sIx z.length 0 lo)).toArray.size ≤ _
  rw [List.size_toArray, List.length_take, List.length_drop]
  show _ ≤ z.cps.size
  have : z.cps.toList.length = z.cps.size := by simp
  omega
theorem app_len (a b : Str) : (a ++ b).length = a.length + b.length := by rw [cs_len, cs_app, List.length_append, ← cs_len, ← cs_len]
/-- a text of few signs, all of them low -/
structure Sm8 (n : Nat) (z : Str) : Prop where
  len : z.length ≤ n
  ch : ∀ c ∈ cs z, c < 16 ^ 8
theorem Sm8.cut {n : Nat} {z : Str} (h : Sm8 n z) (lo hi : Option Int) : Sm8 n (cutS z lo hi) := ⟨Nat.le_trans (cut_len z lo hi) h.len, fun c hc => h.ch c (cs_cut_mem hc)⟩
theorem Sm8.app {n m : Nat} {a b : Str} (h : Sm8 n a) (g : Sm8 m b) : Sm8 (n + m) (a ++ b) := ⟨by rw [app_len]; exact Nat.add_le_add h.len g.len, fun c hc => by
  rw [cs_app] at hc
  exact (List.mem_append.mp hc).elim (h.ch c) (g.ch c)⟩
theorem Sm8.lit {z : Str} (n : Nat) (h : (decide (z.length ≤ n) && (cs z).all fun c => decide (c < 16 ^ 8)) = true) : Sm8 n z := by
  simp only [Bool.and_eq_true, decide_eq_true_eq, List.all_eq_true] at h
  exact ⟨h.1, h.2⟩
theorem Sm8.tx {n w : Nat} {z : Str} (h : Sm8 n z) (hw : n ≤ w) : Tx 0 w (.str z) := tx_str h.ch (Nat.le_trans h.len hw)
theorem NameOk.sm {z : Str} (h : NameOk z) : Sm8 8 z := ⟨by rw [cs_len]; exact h.hi, fun c hc => alnum_lt (h.all c hc)⟩
def f_odd_label : DS := (dSeq (dAsg (xCallF 1 S_label (daCons (xVar 0) daNil)) (dgName 1))
  (dSeq (dPar 2 3 (daCons (xCallF 2 S_draw (daCons (xVar 0) (daCons (xC1 (xF1 lenT) (xV 1)) daNil))) (daCons (xCallF 2 S_pick (daCons (xVar 0) (daCons (dLst (daCons (dC (.str "A")) (daCons (dC (.str "_")) (daCons (dC (.str " ")) (daCons (dC (.str "-")) (daCons (dC (.str "Z")) (daCons (dC (.str "\n")) (daCons (dC (.str "9")) (daCons (dC (.str "a")) (daCons (dC (.str "=")) (daCons (dC (.str ".")) daNil))))))))))) daNil))) daNil)))
  (dSeq (dAsg (xCallF 2 S_draw (daCons (xVar 0) (daCons (dC (.int 6)) daNil))) (dgName 4))
  (dSeq (dIfS (dTest (dOp gLt (xV 4) (oE (dC (.int 3)))))
  (dRet (dOp xAdd (oE (dOp xAdd (oE (dSl gSlS (xV 1) dpNo (dpSome (xVar 2)))) (xV 3))) (oE (dSl gSlS (xV 1) (dpSome (dOp xAdd (xV 2) (oE (dC (.int 1))))) dpNo))))
  dNext)
  (dSeq (dIfS (dTest (dOp (xEq false) (xV 4) (oE (dC (.int 3)))))
  (dRet (dSl gSlS (oE (dOp xAdd (xV 1) (oE (dC (.str "abcdefgh"))))) dpNo (dpSome (dC (.int 9)))))
  dNext)
  (dRet (xCallF 2 S_pick (daCons (xVar 0) (daCons (dLst (daCons (dC (.str "")) (daCons (dC .non) (daCons (dC (.int 5)) (daCons (dC (.bl true)) (daCons (dTup (daCons (xVar 1) daNil)) (daCons (dLst (daCons (xVar 1) daNil)) (daCons dDct (daCons (dOp xAdd (xV 1) (oE (dC (.str " ")))) (daCons (dOp xAdd (oE (dC (.str " "))) (xV 1)) (daCons (dUp (xVar 1)) daNil))))))))))) daNil)))))))))

theorem ok_odd_label (Φ : Facts P w K mg base) : Cal P w K mg base 9 "_law_odd_label" P_odd_label (spF K mg 1 (bodyS 5 f_odd_label)) :=
  def_ok Φ.T_odd_label sc_odd_label fun fa cd A up s H Ek hr hG => by
    have tk := takes_of (X := cxOf (L2.CX P w) P w K mg base N_odd_label "_law_odd_label" (defScope s_odd_label) fa cd A up s H Ek) (E := Ek) rfl rfl rfl rfl
    refine ⟨_, (pss_cons (ps_set (i := 1) sc_odd_label.nd rfl (by first | exact Or.inl rfl | exact Or.inr rfl) (pe_fz (pe_cs (c_label Φ) (hr.mono (by decide)) hG (by rfl) (passAt tk) (pa_cons (pe_fz (pv 0)) pa_nil))))
      (pss_cons (ps_par (i := 2) (j := 3) rfl sc_odd_label.nd rfl rfl (by decide) rfl rfl (pa_cons (pe_fz (pe_cs (c_draw Φ) (hr.mono (by decide)) hG (by rfl) (passAt tk) (pa_cons (pe_fz (pv 0)) (pa_cons (pe_callB (lenQc (K := K) rfl) (by rfl) Φ.B.len (by decide +kernel) (pa_cons (pv 1) pa_nil)) pa_nil)))) (pa_cons (pe_fz (pe_cs (c_pick Φ) (hr.mono (by decide)) hG (by rfl) (passAt tk) (pa_cons (pe_fz (pv 0)) (pa_cons (pe_lst (pa_cons pe_str (pa_cons pe_str (pa_cons pe_str (pa_cons pe_str (pa_cons pe_str (pa_cons pe_str (pa_cons pe_str (pa_cons pe_str (pa_cons pe_str (pa_cons pe_str pa_nil))))))))))) pa_nil)))) pa_nil)) (by rfl))
      (pss_cons (ps_set (i := 4) sc_odd_label.nd rfl (by first | exact Or.inl rfl | exact Or.inr rfl) (pe_fz (pe_cs (c_draw Φ) (hr.mono (by decide)) hG (by rfl) (passAt tk) (pa_cons (pe_fz (pv 0)) (pa_cons pe_int pa_nil)))))
      (pss_cons (ps_if (pt_cmpR op_lt (pv 4) pe_int (nomark _))
        (pss_one (ps_ret (pe_op (addO (K := K) rfl) (pe_op (addO (K := K) rfl) (pe_slice sl_str (pv 1) po_none (po_some (pe_fz (pv 2)))) (pv 3)) (pe_slice sl_str (pv 1) (po_some (pe_op (addO (K := K) rfl) (pv 2) pe_int)) po_none))))
        pss_nil)
      (pss_cons (ps_if (pt_cmpR (eqO (K := K) rfl (units65 hr)) (pv 4) pe_int (nomark _))
        (pss_one (ps_ret (pe_slice sl_str (pe_op (addO (K := K) rfl) (pv 1) pe_str) po_none (po_some pe_int))))
        pss_nil)
      (pss_one (ps_ret (pe_fz (pe_cs (c_pick Φ) (hr.mono (by decide)) hG (by rfl) (passAt tk) (pa_cons (pe_fz (pv 0)) (pa_cons (pe_lst (pa_cons pe_str (pa_cons pe_non (pa_cons pe_int (pa_cons pe_bl (pa_cons (pe_tup (pa_cons (pe_fz (pv 1)) pa_nil)) (pa_cons (pe_lst (pa_cons (pe_fz (pv 1)) pa_nil)) (pa_cons (pe_fz pe_dnewK) (pa_cons (pe_op (addO (K := K) rfl) (pv 1) pe_str) (pa_cons (pe_op (addO (K := K) rfl) pe_str (pv 1)) (pa_cons (pe_upper (pe_fz (pv 1))) pa_nil))))))))))) pa_nil))))))))))), ?_⟩
    unfold f_odd_label
    exact (snd_seq (snd_asg (snd_xCallF (snd_cons snd_xVar snd_nil)) snd_gName)
      (snd_seq (snd_par (snd_cons (snd_xCallF (snd_cons snd_xVar (snd_cons (snd_xC1 cs_xLen snd_xV) snd_nil))) (snd_cons (snd_xCallF (snd_cons snd_xVar (snd_cons (snd_lst (snd_cons snd_str (snd_cons snd_str (snd_cons snd_str (snd_cons snd_str (snd_cons snd_str (snd_cons snd_str (snd_cons snd_str (snd_cons snd_str (snd_cons snd_str (snd_cons snd_str snd_nil))))))))))) snd_nil))) snd_nil)))
      (snd_seq (snd_asg (snd_xCallF (snd_cons snd_xVar (snd_cons snd_int snd_nil))) snd_gName)
      (snd_seq (snd_ifS (snd_test (snd_op os_lt snd_xV (snd_oE snd_int)))
        (snd_ret (snd_op os_xAdd (snd_oE (snd_op os_xAdd (snd_oE (snd_sl os_slS snd_xV snd_pNo (snd_pSome snd_xVar))) snd_xV)) (snd_oE (snd_sl os_slS snd_xV (snd_pSome (snd_op os_xAdd snd_xV (snd_oE snd_int))) snd_pNo))))
        snd_next)
      (snd_seq (snd_ifS (snd_test (snd_op os_xEq snd_xV (snd_oE snd_int)))
        (snd_ret (snd_sl os_slS (snd_oE (snd_op os_xAdd snd_xV (snd_oE snd_str))) snd_pNo (snd_pSome snd_int)))
        snd_next)
      (snd_ret (snd_xCallF (snd_cons snd_xVar (snd_cons (snd_lst (snd_cons snd_str (snd_cons snd_non (snd_cons snd_int (snd_cons snd_bl (snd_cons (snd_tup (snd_cons snd_xVar snd_nil)) (snd_cons (snd_lst (snd_cons snd_xVar snd_nil)) (snd_cons (snd_fz snd_dctN) (snd_cons (snd_op os_xAdd snd_xV (snd_oE snd_str)) (snd_cons (snd_op os_xAdd (snd_oE snd_str) snd_xV) (snd_cons (snd_up snd_xVar) snd_nil))))))))))) snd_nil)))))))))

def S_odd_label : SpecT := fun ts st P X => ∃ (k : Nat), ts = [.cell k] ∧ PotAt st k ∧ ∀ (t : T) (b c : Int), Tx 1 200 t → 0 ≤ c → c < 2147483648 → P (.fr t) (potSt st k b c)
theorem c_odd_label (Φ : Facts P w K mg base) : Cal P w K mg base 9 "_law_odd_label" P_odd_label (spF K mg 1 S_odd_label) := (ok_odd_label Φ).impF <|  by
  rintro ts st P X ⟨k, rfl, hp, q⟩
  have hk := hp.lt
  unfold f_odd_label
  fail "wp"
  refine ⟨k, rfl, hp, fun z b c hz c0 c1 => ?_⟩
  have hl : 1 ≤ z.length := by rw [cs_len]; exact hz.lo
  have hl8 : z.length ≤ 8 := by rw [cs_len]; exact hz.hi
  have hl2 : z.length ≤ 16777216 := by omega
  fail "wp"
  refine ⟨k, _, rfl, potSt_at hk c0 c1, by omega, by omega, fun d b2 c2 d0 d1 e0 e1 => ?_⟩
  rw [potSt_set]
  fail "wp"
  refine ⟨k, _, _, rfl, potSt_at hk e0 e1, by simp, by simp, .inl rfl, fun t b3 c3 ht f0 f1 => ?_⟩
  obtain ⟨s, rfl, hs⟩ : ∃ s, t = .str s ∧ Sm8 1 s := by
    refine (?_ : ∀ t ∈ _, ∃ s, t = T.str s ∧ Sm8 1 s) t ht
    repeat' (first | refine List.forall_mem_cons.mpr ⟨?_, ?_⟩ | exact fun _ h => (List.not_mem_nil h).elim)
    all_goals exact ⟨_, rfl, Sm8.lit 1 (by decide +kernel)⟩
  clear ht
  rw [potSt_set]
  have hs1 := hs.len
  fail "wp"
  refine ⟨k, _, rfl, potSt_at hk f0 f1, by decide, by decide, fun v b4 c4 v0 v1 g0 g1 => ?_⟩
  rw [potSt_set]
  fail "wp"
  have hz8 := hz.sm
  have l1 := cut_len z none (some d)
  have l2 := cut_len z (some (d + 1)) none
  have n1 : (Str.ofString " ").length = 1 := by decide +kernel
  have n8 : (Str.ofString "abcdefgh").length = 8 := by decide +kernel
  split
  · have A := ((hz8.cut none (some d)).app hs).app (hz8.cut (some (d + 1)) none)
    refine ⟨by omega, by rw [app_len]; omega, q _ _ _ ((A.tx (by decide)).le (by decide) (Nat.le_refl _)) g0 g1⟩
  split
  · have A := (hz8.app (Sm8.lit 8 (z := "abcdefgh") (by decide +kernel))).cut none (some 9)
    exact ⟨by omega, by rw [app_len]; omega, q _ _ _ ((A.tx (by decide)).le (by decide) (Nat.le_refl _)) g0 g1⟩
  · refine ⟨by omega, by omega, by omega, k, _, _, rfl, potSt_at hk g0 g1, by simp, by simp, .inl rfl, fun t b5 c5 ht h0 h1 => ?_⟩
    rw [potSt_set]
    refine q _ _ _ ?_ h0 h1
    have sp := Sm8.lit 1 (z := " ") (by decide +kernel)
    have one : ∀ t ∈ [T.str z], Tx 0 8 t := List.forall_mem_cons.mpr ⟨hz.tx, (fun _ h => nomatch h)⟩
    refine (?_ : ∀ t ∈ _, Tx 1 200 t) t ht
    repeat' (first | refine List.forall_mem_cons.mpr ⟨?_, ?_⟩ | exact fun _ h => (List.not_mem_nil h).elim)
    all_goals first
      | exact tx_lit _ rfl (by decide +kernel)
      | exact (tup_w (m := 1) one (by simp)).le (by decide) (by decide)
      | exact (lst_w (m := 1) one (by simp)).le (by decide) (by decide)
      | exact ((hz8.app sp).tx (w := 200) (by decide)).le (by decide) (Nat.le_refl _)
      | exact ((sp.app hz8).tx (w := 200) (by decide)).le (by decide) (Nat.le_refl _)
      | exact hz.up.le (by decide) (by decide)
end
end Fu
set_option Elab.async false
set_option linter.all false
set_option maxRecDepth 100000
set_option maxHeartbeats 4000000
namespace Fu
open PySem PySem.Spec PyProof.Rows L2 Hv
local macro_rules | `(tactic| fail "wp d") => `(tactic| dsimp only [dMk1, dMk2, dMk2r, dMk0, dXv, dIsV, dDisp, dTryC, clAs, clO, clNil, dRaise0, dIsiT, dIsXT, gReprQ, deref_ev, dMakeS, dProp, dRevT, dUp, consO, dFor_eq, dLc_eq, dDc_eq, dLc2_eq, deref_non, deref_bl, deref_int, deref_str, deref_ty, deref_lst, deref_tup, deref_dct, deref_ins, deref_glob, deref_scr, deref_exc, deref_cell, truth_non, truth_bl, truth_int, truth_lst, truth_tup, truth_str, tagOf_non, tagOf_bl, tagOf_int, tagOf_str, tagOf_lst, tagOf_scr, tagOf_tup, tagOf_dct, tagOf_ins, toKey_int, toKey_str, isNon_non, isNon_bl, isNon_int, isNon_str, isNon_ty, isNon_lst, isNon_tup, isNon_dct, isNon_ins, isNon_glob, isNon_scr, isNon_exc, bodyS, startE, dSeq, dNext, dIfS, dRet, dRetO, dRetV, dRetN, dDrop, dBreak, dCont, dTest, dTru, dAnd, dOr, dNot, dAndV, dOrV, dNotV, dIfE, dChain, xC1, xC2, dOp, dC, dVar, xVar, takeV, om, omP, oV, xV, okSl, oE, daNil, daCons, drNil, drCons, dLst, dTup, dDct, vw, vws, look, dAsg, dgName, dgNil, dgCons, dgTup, dgSub, dSetO, dSetL, dPar, dPar3, dParOO, dParOF, dParFO, dYes, dNeg, dDGet, dDIn, dSl, dpNo, dpSome, dFld, dSFld, dCon, dCc, xFmt, fmtT, xFstr, jNil, jCons, joinT, seqT, xCallF, xCallO, xMeth, xMethO, Rt.val, Rt.isOw, dMake, dBox, dRaise1, dRaise2, dAppend, dExtend, dPopAt, dPop, dTmpAppend, dTmpPop, dDPut, dDPop1, xLk, xLkLc, lkM, lkOn, lkOff, lkOk, lkX, dIsi, xSort, sortP, dInO, dLenO, dEqO, dXf, dIsX, daKw, seeI, seeL, upto, uptoT, cellT, ansB, ansI, gI0, gIC, gSub', gFdiv, gMod, gPow, gLt, gLe, gGt, gGe, xAdd, addT, xMul, mulT, xEq, xIn, negB, inT, sign1_eq, gIs, gIsNot, xIx, ixT, ixC, gSlS, xSlL, slLT, gSlT, xF1, lenT, gAbs, gMax2, gMin2, int1T, gDivmod, bool1T, str1T, gAll, gAny, gSum, listT, tupleT, dictT, gRepr, gEqK, gAddL, wiped, wipeE, unw, unE, diL, diT, diS, diR1, diR2, diE, diK, diI, diV, xZ, zipO, diZK, diZV, zMapC, zMapN, zAppC, zAppN, zRepS, zRep0, zGet0, zGetS, zSet0, zSetS, zLenN, zLenC, zOMap, zONone, Nat.reduceAdd, Nat.reduceSub])
local macro_rules | `(tactic| fail "wp s") => `(tactic| simp only [gP_nil, gP_cons, is_NoneType_bool, is_NoneType_int, is_NoneType_list, is_NoneType_str, is_NoneType_tuple, is_bool_bool, is_bool_int, is_bool_list, is_bool_str, is_bool_tuple, is_dict_bool, is_dict_int, is_dict_list, is_dict_str, is_dict_tuple, is_int_bool, is_int_int, is_int_list, is_int_str, is_int_tuple, is_list_bool, is_list_int, is_list_list, is_list_str, is_list_tuple, is_str_bool, is_str_int, is_str_list, is_str_str, is_str_tuple, is_tuple_bool, is_tuple_int, is_tuple_list, is_tuple_str, is_tuple_tuple, ix_InvalidScript_HookError, ix_InvalidScript_StateError, cc_Boxes_MOST_VALUES, fl_Script, hd_InvalidScript_InvalidScript, xf_InvalidScript, ex_map, eqT_int, eqT_bl, eqT_str, inL_str, inL_strN, sign_inj, Nat.reduceAdd, Nat.reduceSub, Nat.reduceLeDiff, Nat.reduceLT, Nat.zero_lt_succ, Nat.succ_pos, if_true, if_false, Bool.false_eq_true, ite_true, ite_false, true_and, and_true, decide_eq_true_eq, decide_true, decide_false, exists_eq_left', exists_eq_left, T.str.injEq, T.int.injEq, T.bl.injEq, T.lst.injEq, T.tup.injEq, T.dct.injEq, T.cell.injEq, T.ins.injEq, exists_const, exists_and_left, Bool.not_true, Bool.not_false, eq_self, reduceIte, reduceCtorEq, Bool.not_eq_true', Bool.true_eq_false, and_false, false_and, exists_false, or_false, false_or, Option.some.injEq, List.getElem?_set_self, List.set_set, List.length_set, atI0, atI1, atI2, ixN0, ixN1, List.append_assoc, sizeLine_eq, Option.getD_some, List.map_cons, List.map_nil, List.cons_append, List.nil_append, List.append_nil, List.length_cons, List.length_nil, List.replicate, List.getElem?_cons_zero, List.getElem?_cons_succ, List.set_cons_zero, List.set_cons_succ, Nat.sub_self, *])
local macro_rules | `(tactic| fail "wp") => `(tactic| repeat (first | fail "wp d" | fail "wp s"))
local macro_rules | `(tactic| fail "hit") => `(tactic| (intro Q h; first | exact h | (fail "wp"; done) | (fail "wp"; first | exact h | exact ⟨by omega, h⟩ | exact ⟨⟨by omega, by omega⟩, h⟩)))

section
variable {P : Program} {w : World} {K : PySem.W.Frag} {mg : Str → Option Value} {base : Heap}
theorem cutT_mem {ts : List T} {lo hi : Option Int} {t : T} (h : t ∈ cutT ts lo hi) : t ∈ ts := List.mem_of_mem_drop (List.mem_of_mem_take h)
theorem mem3 {Pr : T → Prop} {a b : List T} {t : T} (h1 : ∀ u ∈ a, Pr u) (ht : Pr t) (h2 : ∀ u ∈ b, Pr u) : ∀ u ∈ a ++ t :: b, Pr u := List.forall_mem_append.mpr ⟨h1, List.forall_mem_cons.mpr ⟨ht, h2⟩⟩
theorem cutT_len (ts : List T) (lo hi : Option Int) : (cutT ts lo hi).length ≤ ts.length := by
  unfold cutT
  rw [List.length_take, List.length_drop]
  omega
def f_spoilt : DS := (dSeq (dPar 2 3 (daCons (xCallF 2 S_draw (daCons (xVar 0) (daCons (dC (.int 10)) daNil))) (daCons (xCallF 2 S_draw (daCons (xVar 0) (daCons (xC1 (xF1 lenT) (xV 1)) daNil))) daNil)))
  (dSeq (dIfS (dTest (dOp (xEq false) (xV 2) (oE (dC (.int 0)))))
  (dRet (dOp xAdd (oE (dOp xAdd (oE (dSl gSlT (xV 1) dpNo (dpSome (xVar 3)))) (oE (dTup (daCons (xCallF 1 S_odd_label (daCons (xVar 0) daNil)) daNil))))) (oE (dSl gSlT (xV 1) (dpSome (dOp xAdd (xV 3) (oE (dC (.int 1))))) dpNo))))
  dNext)
  (dSeq (dIfS (dTest (dOp (xEq false) (xV 2) (oE (dC (.int 1)))))
  (dRet (dOp xAdd (oE (dOp xAdd (oE (dSl gSlT (xV 1) dpNo (dpSome (xVar 3)))) (oE (dTup (daCons (xCallF 1 S_odd_digit (daCons (xVar 0) daNil)) daNil))))) (oE (dSl gSlT (xV 1) (dpSome (dOp xAdd (xV 3) (oE (dC (.int 1))))) dpNo))))
  dNext)
  (dSeq (dIfS (dTest (dOp (xEq false) (xV 2) (oE (dC (.int 2)))))
  (dRet (dOp xAdd (oE (dSl gSlT (xV 1) dpNo (dpSome (xVar 3)))) (oE (dSl gSlT (xV 1) (dpSome (dOp xAdd (xV 3) (oE (dC (.int 1))))) dpNo))))
  dNext)
  (dSeq (dIfS (dTest (dOp (xEq false) (xV 2) (oE (dC (.int 3)))))
  (dRet (dOp xAdd (oE (dOp xAdd (oE (dSl gSlT (xV 1) dpNo (dpSome (xVar 3)))) (oE (dTup (daCons (xCallF 2 S_pick (daCons (xVar 0) (daCons (dLst (daCons (dC (.str "")) (daCons (dC (.int 0)) (daCons (dC (.str "a")) (daCons (dC .non) (daCons (dTup daNil) daNil)))))) daNil))) daNil))))) (oE (dSl gSlT (xV 1) (dpSome (xVar 3)) dpNo))))
  dNext)
  (dSeq (dIfS (dTest (dOp (xEq false) (xV 2) (oE (dC (.int 4)))))
  (dRet (dOp xAdd (xV 1) (oE (dTup (daCons (xCallF 2 S_pick (daCons (xVar 0) (daCons (dLst (daCons (dC (.str "")) (daCons (dC (.int 0)) (daCons (dC (.str "a")) (daCons (dC .non) (daCons (dTup daNil) daNil)))))) daNil))) daNil)))))
  dNext)
  (dSeq (dIfS (dTest (dOp (xEq false) (xV 2) (oE (dC (.int 5)))))
  (dSeq (dPar 4 5 (daCons (dOp xIx (xV 1) (oE (dC (.int 0)))) (daCons (xCallF 2 S_pick (daCons (xVar 0) (daCons (dLst (daCons (dC (.str "a")) (daCons (dC (.str "k")) (daCons (dC (.str "L")) (daCons (dC (.str " ")) (daCons (dC (.str "")) (daCons (dC (.str "s")) daNil))))))) daNil))) daNil)))
  (dSeq (dAsg (xCallF 2 S_draw (daCons (xVar 0) (daCons (xC1 (xF1 lenT) (xV 4)) daNil))) (dgName 6))
  (dRet (dOp xAdd (oE (dTup (daCons (dOp xAdd (oE (dOp xAdd (oE (dSl gSlS (xV 4) dpNo (dpSome (xVar 6)))) (xV 5))) (oE (dSl gSlS (xV 4) (dpSome (dOp xAdd (xV 6) (oE (dC (.int 1))))) dpNo))) daNil))) (oE (dSl gSlT (xV 1) (dpSome (dC (.int 1))) dpNo))))))
  dNext)
  (dSeq (dIfS (dTest (dOp (xEq false) (xV 2) (oE (dC (.int 6)))))
  (dRet (dRevT (xVar 1)))
  dNext)
  (dRet (xCallF 2 S_pick (daCons (xVar 0) (daCons (dLst (daCons (xC1 (xF1 listT) (xV 1)) (daCons (dTup (daCons (xVar 1) daNil)) (daCons (dLst (daCons (xVar 1) daNil)) (daCons (dOp xIx (xV 1) (oE (dC (.int 0)))) (daCons (dTup (daCons (xC1 (xF1 listT) (xV 1)) daNil)) (daCons (dTup daNil) (daCons (dLst daNil) (daCons (dC .non) (daCons (dC (.int 0)) (daCons (dC (.bl true)) (daCons dDct (daCons (dOp xAdd (xV 1) (xV 1)) daNil))))))))))))) daNil))))))))))))

theorem ok_spoilt (Φ : Facts P w K mg base) : Cal P w K mg base 11 "_law_spoilt" P_spoilt (spF K mg 2 (bodyS 7 f_spoilt)) :=
  def_ok Φ.T_spoilt sc_spoilt fun fa cd A up s H Ek hr hG => by
    have tk := takes_of (X := cxOf (L2.CX P w) P w K mg base N_spoilt "_law_spoilt" (defScope s_spoilt) fa cd A up s H Ek) (E := Ek) rfl rfl rfl rfl
    refine ⟨_, (pss_cons (ps_par (i := 2) (j := 3) rfl sc_spoilt.nd rfl rfl (by decide) rfl rfl (pa_cons (pe_fz (pe_cs (c_draw Φ) (hr.mono (by decide)) hG (by rfl) (passAt tk) (pa_cons (pe_fz (pv 0)) (pa_cons pe_int pa_nil)))) (pa_cons (pe_fz (pe_cs (c_draw Φ) (hr.mono (by decide)) hG (by rfl) (passAt tk) (pa_cons (pe_fz (pv 0)) (pa_cons (pe_callB (lenQc (K := K) rfl) (by rfl) Φ.B.len (by decide +kernel) (pa_cons (pv 1) pa_nil)) pa_nil)))) pa_nil)) (by rfl))
      (pss_cons (ps_if (pt_cmpR (eqO (K := K) rfl (units65 hr)) (pv 2) pe_int (nomark _))
        (pss_one (ps_ret (pe_op (addO (K := K) rfl) (pe_op (addO (K := K) rfl) (pe_slice (slT (K := K) rfl) (pv 1) po_none (po_some (pe_fz (pv 3)))) (pe_tup (pa_cons (pe_fz (pe_cs (c_odd_label Φ) (hr.mono (by decide)) hG (by rfl) (passAt tk) (pa_cons (pe_fz (pv 0)) pa_nil))) pa_nil))) (pe_slice (slT (K := K) rfl) (pv 1) (po_some (pe_op (addO (K := K) rfl) (pv 3) pe_int)) po_none))))
        pss_nil)
      (pss_cons (ps_if (pt_cmpR (eqO (K := K) rfl (units65 hr)) (pv 2) pe_int (nomark _))
        (pss_one (ps_ret (pe_op (addO (K := K) rfl) (pe_op (addO (K := K) rfl) (pe_slice (slT (K := K) rfl) (pv 1) po_none (po_some (pe_fz (pv 3)))) (pe_tup (pa_cons (pe_fz (pe_cs (c_odd_digit Φ) (hr.mono (by decide)) hG (by rfl) (passAt tk) (pa_cons (pe_fz (pv 0)) pa_nil))) pa_nil))) (pe_slice (slT (K := K) rfl) (pv 1) (po_some (pe_op (addO (K := K) rfl) (pv 3) pe_int)) po_none))))
        pss_nil)
      (pss_cons (ps_if (pt_cmpR (eqO (K := K) rfl (units65 hr)) (pv 2) pe_int (nomark _))
        (pss_one (ps_ret (pe_op (addO (K := K) rfl) (pe_slice (slT (K := K) rfl) (pv 1) po_none (po_some (pe_fz (pv 3)))) (pe_slice (slT (K := K) rfl) (pv 1) (po_some (pe_op (addO (K := K) rfl) (pv 3) pe_int)) po_none))))
        pss_nil)
      (pss_cons (ps_if (pt_cmpR (eqO (K := K) rfl (units65 hr)) (pv 2) pe_int (nomark _))
        (pss_one (ps_ret (pe_op (addO (K := K) rfl) (pe_op (addO (K := K) rfl) (pe_slice (slT (K := K) rfl) (pv 1) po_none (po_some (pe_fz (pv 3)))) (pe_tup (pa_cons (pe_fz (pe_cs (c_pick Φ) (hr.mono (by decide)) hG (by rfl) (passAt tk) (pa_cons (pe_fz (pv 0)) (pa_cons (pe_lst (pa_cons pe_str (pa_cons pe_int (pa_cons pe_str (pa_cons pe_non (pa_cons (pe_tup pa_nil) pa_nil)))))) pa_nil)))) pa_nil))) (pe_slice (slT (K := K) rfl) (pv 1) (po_some (pe_fz (pv 3))) po_none))))
        pss_nil)
      (pss_cons (ps_if (pt_cmpR (eqO (K := K) rfl (units65 hr)) (pv 2) pe_int (nomark _))
        (pss_one (ps_ret (pe_op (addO (K := K) rfl) (pv 1) (pe_tup (pa_cons (pe_fz (pe_cs (c_pick Φ) (hr.mono (by decide)) hG (by rfl) (passAt tk) (pa_cons (pe_fz (pv 0)) (pa_cons (pe_lst (pa_cons pe_str (pa_cons pe_int (pa_cons pe_str (pa_cons pe_non (pa_cons (pe_tup pa_nil) pa_nil)))))) pa_nil)))) pa_nil)))))
        pss_nil)
      (pss_cons (ps_if (pt_cmpR (eqO (K := K) rfl (units65 hr)) (pv 2) pe_int (nomark _))
        (pss_cons (ps_par (i := 4) (j := 5) rfl sc_spoilt.nd rfl rfl (by decide) rfl rfl (pa_cons (pe_ix (ixS (K := K) rfl) (pv 1) pe_int (fun _ _ => rfl)) (pa_cons (pe_fz (pe_cs (c_pick Φ) (hr.mono (by decide)) hG (by rfl) (passAt tk) (pa_cons (pe_fz (pv 0)) (pa_cons (pe_lst (pa_cons pe_str (pa_cons pe_str (pa_cons pe_str (pa_cons pe_str (pa_cons pe_str (pa_cons pe_str pa_nil))))))) pa_nil)))) pa_nil)) (by rfl))
      (pss_cons (ps_set (i := 6) sc_spoilt.nd rfl (by first | exact Or.inl rfl | exact Or.inr rfl) (pe_fz (pe_cs (c_draw Φ) (hr.mono (by decide)) hG (by rfl) (passAt tk) (pa_cons (pe_fz (pv 0)) (pa_cons (pe_callB (lenQc (K := K) rfl) (by rfl) Φ.B.len (by decide +kernel) (pa_cons (pv 4) pa_nil)) pa_nil)))))
      (pss_one (ps_ret (pe_op (addO (K := K) rfl) (pe_tup (pa_cons (pe_op (addO (K := K) rfl) (pe_op (addO (K := K) rfl) (pe_slice sl_str (pv 4) po_none (po_some (pe_fz (pv 6)))) (pv 5)) (pe_slice sl_str (pv 4) (po_some (pe_op (addO (K := K) rfl) (pv 6) pe_int)) po_none)) pa_nil)) (pe_slice (slT (K := K) rfl) (pv 1) (po_some pe_int) po_none))))))
        pss_nil)
      (pss_cons (ps_if (pt_cmpR (eqO (K := K) rfl (units65 hr)) (pv 2) pe_int (nomark _))
        (pss_one (ps_ret (pe_revT (K := K) rfl (pe_fz (pv 1)))))
        pss_nil)
      (pss_one (ps_ret (pe_fz (pe_cs (c_pick Φ) (hr.mono (by decide)) hG (by rfl) (passAt tk) (pa_cons (pe_fz (pv 0)) (pa_cons (pe_lst (pa_cons (pe_fz (pe_callTy (listQc (K := K) rfl rfl) (by rfl) Φ.B.list (by decide +kernel) (pa_cons (pv 1) pa_nil))) (pa_cons (pe_tup (pa_cons (pe_fz (pv 1)) pa_nil)) (pa_cons (pe_lst (pa_cons (pe_fz (pv 1)) pa_nil)) (pa_cons (pe_ix (ixS (K := K) rfl) (pv 1) pe_int (fun _ _ => rfl)) (pa_cons (pe_tup (pa_cons (pe_fz (pe_callTy (listQc (K := K) rfl rfl) (by rfl) Φ.B.list (by decide +kernel) (pa_cons (pv 1) pa_nil))) pa_nil)) (pa_cons (pe_tup pa_nil) (pa_cons (pe_lst pa_nil) (pa_cons pe_non (pa_cons pe_int (pa_cons pe_bl (pa_cons (pe_fz pe_dnewK) (pa_cons (pe_op (addO (K := K) rfl) (pv 1) (pv 1)) pa_nil))))))))))))) pa_nil)))))))))))))), ?_⟩
    unfold f_spoilt
    exact (snd_seq (snd_par (snd_cons (snd_xCallF (snd_cons snd_xVar (snd_cons snd_int snd_nil))) (snd_cons (snd_xCallF (snd_cons snd_xVar (snd_cons (snd_xC1 cs_xLen snd_xV) snd_nil))) snd_nil)))
      (snd_seq (snd_ifS (snd_test (snd_op os_xEq snd_xV (snd_oE snd_int)))
        (snd_ret (snd_op os_xAdd (snd_oE (snd_op os_xAdd (snd_oE (snd_sl os_slT snd_xV snd_pNo (snd_pSome snd_xVar))) (snd_oE (snd_tup (snd_cons (snd_xCallF (snd_cons snd_xVar snd_nil)) snd_nil))))) (snd_oE (snd_sl os_slT snd_xV (snd_pSome (snd_op os_xAdd snd_xV (snd_oE snd_int))) snd_pNo))))
        snd_next)
      (snd_seq (snd_ifS (snd_test (snd_op os_xEq snd_xV (snd_oE snd_int)))
        (snd_ret (snd_op os_xAdd (snd_oE (snd_op os_xAdd (snd_oE (snd_sl os_slT snd_xV snd_pNo (snd_pSome snd_xVar))) (snd_oE (snd_tup (snd_cons (snd_xCallF (snd_cons snd_xVar snd_nil)) snd_nil))))) (snd_oE (snd_sl os_slT snd_xV (snd_pSome (snd_op os_xAdd snd_xV (snd_oE snd_int))) snd_pNo))))
        snd_next)
      (snd_seq (snd_ifS (snd_test (snd_op os_xEq snd_xV (snd_oE snd_int)))
        (snd_ret (snd_op os_xAdd (snd_oE (snd_sl os_slT snd_xV snd_pNo (snd_pSome snd_xVar))) (snd_oE (snd_sl os_slT snd_xV (snd_pSome (snd_op os_xAdd snd_xV (snd_oE snd_int))) snd_pNo))))
        snd_next)
      (snd_seq (snd_ifS (snd_test (snd_op os_xEq snd_xV (snd_oE snd_int)))
        (snd_ret (snd_op os_xAdd (snd_oE (snd_op os_xAdd (snd_oE (snd_sl os_slT snd_xV snd_pNo (snd_pSome snd_xVar))) (snd_oE (snd_tup (snd_cons (snd_xCallF (snd_cons snd_xVar (snd_cons (snd_lst (snd_cons snd_str (snd_cons snd_int (snd_cons snd_str (snd_cons snd_non (snd_cons (snd_tup snd_nil) snd_nil)))))) snd_nil))) snd_nil))))) (snd_oE (snd_sl os_slT snd_xV (snd_pSome snd_xVar) snd_pNo))))
        snd_next)
      (snd_seq (snd_ifS (snd_test (snd_op os_xEq snd_xV (snd_oE snd_int)))
        (snd_ret (snd_op os_xAdd snd_xV (snd_oE (snd_tup (snd_cons (snd_xCallF (snd_cons snd_xVar (snd_cons (snd_lst (snd_cons snd_str (snd_cons snd_int (snd_cons snd_str (snd_cons snd_non (snd_cons (snd_tup snd_nil) snd_nil)))))) snd_nil))) snd_nil)))))
        snd_next)
      (snd_seq (snd_ifS (snd_test (snd_op os_xEq snd_xV (snd_oE snd_int)))
        (snd_seq (snd_par (snd_cons (snd_op os_xIx snd_xV (snd_oE snd_int)) (snd_cons (snd_xCallF (snd_cons snd_xVar (snd_cons (snd_lst (snd_cons snd_str (snd_cons snd_str (snd_cons snd_str (snd_cons snd_str (snd_cons snd_str (snd_cons snd_str snd_nil))))))) snd_nil))) snd_nil)))
      (snd_seq (snd_asg (snd_xCallF (snd_cons snd_xVar (snd_cons (snd_xC1 cs_xLen snd_xV) snd_nil))) snd_gName)
      (snd_ret (snd_op os_xAdd (snd_oE (snd_tup (snd_cons (snd_op os_xAdd (snd_oE (snd_op os_xAdd (snd_oE (snd_sl os_slS snd_xV snd_pNo (snd_pSome snd_xVar))) snd_xV)) (snd_oE (snd_sl os_slS snd_xV (snd_pSome (snd_op os_xAdd snd_xV (snd_oE snd_int))) snd_pNo))) snd_nil))) (snd_oE (snd_sl os_slT snd_xV (snd_pSome snd_int) snd_pNo))))))
        snd_next)
      (snd_seq (snd_ifS (snd_test (snd_op os_xEq snd_xV (snd_oE snd_int)))
        (snd_ret (snd_revT snd_xVar))
        snd_next)
      (snd_ret (snd_xCallF (snd_cons snd_xVar (snd_cons (snd_lst (snd_cons (snd_fz (snd_xC1N cn_xList snd_xV)) (snd_cons (snd_tup (snd_cons snd_xVar snd_nil)) (snd_cons (snd_lst (snd_cons snd_xVar snd_nil)) (snd_cons (snd_op os_xIx snd_xV (snd_oE snd_int)) (snd_cons (snd_tup (snd_cons (snd_fz (snd_xC1N cn_xList snd_xV)) snd_nil)) (snd_cons (snd_tup snd_nil) (snd_cons (snd_lst snd_nil) (snd_cons snd_non (snd_cons snd_int (snd_cons snd_bl (snd_cons (snd_fz snd_dctN) (snd_cons (snd_op os_xAdd snd_xV snd_xV) snd_nil))))))))))))) snd_nil))))))))))))

def S_spoilt : SpecT := fun ts st P X => ∃ (k : Nat) (z : Str) (r : List T), ts = [.cell k, .tup (.str z :: r)] ∧ PotAt st k ∧ ActOk z r ∧ ∀ (t : T) (b c : Int), Tx 3 3000 t → 0 ≤ c → c < 2147483648 → P (.fr t) (potSt st k b c)
theorem c_spoilt (Φ : Facts P w K mg base) : Cal P w K mg base 11 "_law_spoilt" P_spoilt (spF K mg 2 S_spoilt) := (ok_spoilt Φ).impF <|  by
  rintro ts st P X ⟨k, z, r, rfl, hp, hz, q⟩
  have hk := hp.lt
  have hr := hz.len
  have hr3 : (T.str z :: r).length ≤ 3 := Nat.succ_le_succ hr
  have hr0 : 0 < (T.str z :: r).length := Nat.succ_pos _
  have hit : ∀ t ∈ T.str z :: r, Tx 1 200 t := fun t h => (hz.items t h).le (by decide) (by decide)
  have hx0 : atI (T.str z :: r) 0 = some (.str z) := atI_nat (j := 0) rfl
  unfold f_spoilt
  generalize hts : T.str z :: r = ts at hr3 hr0 hit hx0
  have hzt : Tx 1 423 (.tup ts) := hts ▸ hz.t
  fail "wp"
  refine ⟨k, _, rfl, hp, by decide, by decide, fun v b c v0 v1 c0 c1 => ?_⟩
  fail "wp"
  refine ⟨k, _, rfl, potSt_at hk c0 c1, by omega, by omega, fun d b2 c2 d0 d1 e0 e1 => ?_⟩
  rw [potSt_set]
  have hp2 := potSt_at (b := b2) (c := c2) hk e0 e1
  have l1 := cutT_len ts none (some d)
  have l2 := cutT_len ts (some (d + 1)) none
  have l3 := cutT_len ts (some d) none
  have l4 := cutT_len ts (some 1) none
  have m1 : ∀ t ∈ cutT ts none (some d), Tx 1 200 t := fun t h => hit t (cutT_mem h)
  have m2 : ∀ t ∈ cutT ts (some (d + 1)) none, Tx 1 200 t := fun t h => hit t (cutT_mem h)
  have m3 : ∀ t ∈ cutT ts (some d) none, Tx 1 200 t := fun t h => hit t (cutT_mem h)
  have m4 : ∀ t ∈ cutT ts (some 1) none, Tx 1 200 t := fun t h => hit t (cutT_mem h)
  have fin : ∀ (us : List T) (b c : Int), (∀ t ∈ us, Tx 1 200 t) → us.length ≤ 14 → 0 ≤ c → c < 2147483648 → P (.fr (.tup us)) (potSt st k b c) := fun us b c h l c0 c1 => q _ b c ((tup_w h l).le (by decide) (by decide)) c0 c1
  fail "wp"
  split
  · refine ⟨k, rfl, hp2, fun t b3 c3 ht f0 f1 => ?_⟩
    rw [potSt_set]
    fail "wp"
    exact ⟨by omega, by rw [List.length_append, List.length_singleton]; omega, fin _ _ _ (mem3 m1 ht m2) (by rw [List.length_append, List.length_cons]; omega) f0 f1⟩
  split
  · refine ⟨k, rfl, hp2, fun t b3 c3 ht f0 f1 => ?_⟩
    rw [potSt_set]
    fail "wp"
    exact ⟨by omega, by rw [List.length_append, List.length_singleton]; omega, fin _ _ _ (mem3 m1 ht m2) (by rw [List.length_append, List.length_cons]; omega) f0 f1⟩
  split
  · fail "wp"
    exact ⟨by omega, fin _ _ _ (List.forall_mem_append.mpr ⟨m1, m2⟩) (by rw [List.length_append]; omega) e0 e1⟩
  split
  · refine ⟨k, _, _, rfl, hp2, by simp, by simp, .inl rfl, fun t b3 c3 ht f0 f1 => ?_⟩
    have ht : Tx 1 200 t := by
      refine (?_ : ∀ t ∈ _, Tx 1 200 t) t ht
      repeat' (first | refine List.forall_mem_cons.mpr ⟨?_, ?_⟩ | exact fun _ h => (List.not_mem_nil h).elim)
      all_goals exact tx_lit _ rfl (by decide +kernel)
    rw [potSt_set]
    fail "wp"
    exact ⟨by omega, by rw [List.length_append, List.length_singleton]; omega, fin _ _ _ (mem3 m1 ht m3) (by rw [List.length_append, List.length_cons]; omega) f0 f1⟩
  split
  · refine ⟨k, _, _, rfl, hp2, by simp, by simp, .inl rfl, fun t b3 c3 ht f0 f1 => ?_⟩
    have ht : Tx 1 200 t := by
      refine (?_ : ∀ t ∈ _, Tx 1 200 t) t ht
      repeat' (first | refine List.forall_mem_cons.mpr ⟨?_, ?_⟩ | exact fun _ h => (List.not_mem_nil h).elim)
      all_goals exact tx_lit _ rfl (by decide +kernel)
    rw [potSt_set]
    fail "wp"
    exact ⟨by omega, fin _ _ _ (List.forall_mem_append.mpr ⟨hit, List.forall_mem_cons.mpr ⟨ht, (fun _ h => nomatch h)⟩⟩) (by rw [List.length_append, List.length_singleton]; omega) f0 f1⟩
  split
  · refine ⟨k, _, _, rfl, hp2, by simp, by simp, .inl rfl, fun t b3 c3 ht f0 f1 => ?_⟩
    obtain ⟨s, rfl, hs⟩ : ∃ s, t = .str s ∧ Sm8 1 s := by
      refine (?_ : ∀ t ∈ _, ∃ s, t = T.str s ∧ Sm8 1 s) t ht
      repeat' (first | refine List.forall_mem_cons.mpr ⟨?_, ?_⟩ | exact fun _ h => (List.not_mem_nil h).elim)
      all_goals exact ⟨_, rfl, Sm8.lit 1 (by decide +kernel)⟩
    clear ht
    rw [potSt_set]
    have zl := hz.lo
    have zh := hz.hi
    have hs1 := hs.len
    have zl2 : z.length ≤ 16777216 := by omega
    fail "wp"
    refine ⟨k, _, rfl, potSt_at hk f0 f1, by omega, by omega, fun i b4 c4 i0 i1 g0 g1 => ?_⟩
    rw [potSt_set]
    have n1 := cut_len z none (some i)
    have n2 := cut_len z (some (i + 1)) none
    have zs : Sm8 8 z := ⟨zh, hz.ch⟩
    have A := ((zs.cut none (some i)).app hs).app (zs.cut (some (i + 1)) none)
    fail "wp"
    exact ⟨by omega, by rw [app_len]; omega, by omega, fin _ _ _ (List.forall_mem_cons.mpr ⟨(A.tx (by decide)).le (by decide) (Nat.le_refl _), m4⟩) (by rw [List.length_cons]; omega) g0 g1⟩
  split
  · fail "wp"
    exact fin _ _ _ (fun t h => hit t (List.mem_reverse.mp h)) (by rw [List.length_reverse]; omega) e0 e1
  · fail "wp"
    refine ⟨by omega, k, _, _, rfl, hp2, by simp, by simp, .inl rfl, fun t b3 c3 ht f0 f1 => ?_⟩
    rw [potSt_set]
    refine q _ _ _ ?_ f0 f1
    have zt : Tx 0 8 (.str z) := tx_str hz.ch hz.hi
    have h1 : Tx 2 603 (.lst ts) := lst_w (m := 3) hit hr3
    have h2 : ∀ t ∈ [T.tup ts], Tx 1 423 t := List.forall_mem_cons.mpr ⟨hzt, (fun _ h => nomatch h)⟩
    have h3 : ∀ t ∈ [T.lst ts], Tx 2 603 t := List.forall_mem_cons.mpr ⟨h1, (fun _ h => nomatch h)⟩
    refine (?_ : ∀ t ∈ _, Tx 3 3000 t) t ht
    repeat' (first | refine List.forall_mem_cons.mpr ⟨?_, ?_⟩ | exact fun _ h => (List.not_mem_nil h).elim)
    all_goals first
      | exact tx_lit _ rfl (by decide +kernel)
      | exact h1.le (by decide) (by decide)
      | exact (tup_w (m := 1) h2 (by simp)).le (by decide) (by decide)
      | exact (lst_w (m := 1) h2 (by simp)).le (by decide) (by decide)
      | exact (tup_w (m := 1) h3 (by simp)).le (by decide) (by decide)
      | exact zt.le (by decide) (by decide)
      | exact (tup_w (m := 6) (List.forall_mem_append.mpr ⟨hit, hit⟩) (by rw [List.length_append]; omega)).le (by decide) (by decide)
end
end Fu
set_option Elab.async false
set_option linter.all false
set_option maxRecDepth 100000
set_option maxHeartbeats 4000000
namespace Fu
open PySem PySem.Spec PyProof.Rows L2 Hv
local macro_rules | `(tactic| fail "wp d") => `(tactic| dsimp only [dMk1, dMk2, dMk2r, dMk0, dXv, dIsV, dDisp, dTryC, clAs, clO, clNil, dRaise0, dIsiT, dIsXT, gReprQ, deref_ev, dMakeS, dProp, dRevT, dUp, diLT, diET, consO, dFor_eq, dLc_eq, dDc_eq, dLc2_eq, deref_non, deref_bl, deref_int, deref_str, deref_ty, deref_lst, deref_tup, deref_dct, deref_ins, deref_glob, deref_scr, deref_exc, deref_cell, truth_non, truth_bl, truth_int, truth_lst, truth_tup, truth_str, tagOf_non, tagOf_bl, tagOf_int, tagOf_str, tagOf_lst, tagOf_scr, tagOf_tup, tagOf_dct, tagOf_ins, toKey_int, toKey_str, isNon_non, isNon_bl, isNon_int, isNon_str, isNon_ty, isNon_lst, isNon_tup, isNon_dct, isNon_ins, isNon_glob, isNon_scr, isNon_exc, bodyS, startE, dSeq, dNext, dIfS, dRet, dRetO, dRetV, dRetN, dDrop, dBreak, dCont, dTest, dTru, dAnd, dOr, dNot, dAndV, dOrV, dNotV, dIfE, dChain, xC1, xC2, dOp, dC, dVar, xVar, takeV, om, omP, oV, xV, okSl, oE, daNil, daCons, drNil, drCons, dLst, dTup, dDct, vw, vws, look, dAsg, dgName, dgNil, dgCons, dgTup, dgSub, dSetO, dSetL, dPar, dPar3, dParOO, dParOF, dParFO, dYes, dNeg, dDGet, dDIn, dSl, dpNo, dpSome, dFld, dSFld, dCon, dCc, xFmt, fmtT, xFstr, jNil, jCons, joinT, seqT, xCallF, xCallO, xMeth, xMethO, Rt.val, Rt.isOw, dMake, dBox, dRaise1, dRaise2, dAppend, dExtend, dPopAt, dPop, dTmpAppend, dTmpPop, dDPut, dDPop1, xLk, xLkLc, lkM, lkOn, lkOff, lkOk, lkX, dIsi, xSort, sortP, dInO, dLenO, dEqO, dXf, dIsX, daKw, seeI, seeL, upto, uptoT, cellT, ansB, ansI, gI0, gIC, gSub', gFdiv, gMod, gPow, gLt, gLe, gGt, gGe, xAdd, addT, xMul, mulT, xEq, xIn, negB, inT, sign1_eq, gIs, gIsNot, xIx, ixT, ixC, gSlS, xSlL, slLT, gSlT, xF1, lenT, gAbs, gMax2, gMin2, int1T, gDivmod, bool1T, str1T, gAll, gAny, gSum, listT, tupleT, dictT, gRepr, gEqK, gAddL, wiped, wipeE, unw, unE, diL, diT, diS, diR1, diR2, diE, diK, diI, diV, xZ, zipO, diZK, diZV, zMapC, zMapN, zAppC, zAppN, zRepS, zRep0, zGet0, zGetS, zSet0, zSetS, zLenN, zLenC, zOMap, zONone, Nat.reduceAdd, Nat.reduceSub])
local macro_rules | `(tactic| fail "wp s") => `(tactic| simp only [gP_nil, gP_cons, is_NoneType_bool, is_NoneType_int, is_NoneType_list, is_NoneType_str, is_NoneType_tuple, is_bool_bool, is_bool_int, is_bool_list, is_bool_str, is_bool_tuple, is_dict_bool, is_dict_int, is_dict_list, is_dict_str, is_dict_tuple, is_int_bool, is_int_int, is_int_list, is_int_str, is_int_tuple, is_list_bool, is_list_int, is_list_list, is_list_str, is_list_tuple, is_str_bool, is_str_int, is_str_list, is_str_str, is_str_tuple, is_tuple_bool, is_tuple_int, is_tuple_list, is_tuple_str, is_tuple_tuple, ix_InvalidScript_HookError, ix_InvalidScript_StateError, cc_Boxes_MOST_VALUES, fl_Script, hd_InvalidScript_InvalidScript, xf_InvalidScript, ex_map, eqT_int, eqT_bl, eqT_str, inL_str, inL_strN, sign_inj, Nat.reduceAdd, Nat.reduceSub, Nat.reduceLeDiff, Nat.reduceLT, Nat.zero_lt_succ, Nat.succ_pos, if_true, if_false, Bool.false_eq_true, ite_true, ite_false, true_and, and_true, decide_eq_true_eq, decide_true, decide_false, exists_eq_left', exists_eq_left, T.str.injEq, T.int.injEq, T.bl.injEq, T.lst.injEq, T.tup.injEq, T.dct.injEq, T.cell.injEq, T.ins.injEq, exists_const, exists_and_left, Bool.not_true, Bool.not_false, eq_self, reduceIte, reduceCtorEq, Bool.not_eq_true', Bool.true_eq_false, and_false, false_and, exists_false, or_false, false_or, Option.some.injEq, List.getElem?_set_self, List.set_set, List.length_set, atI0, atI1, atI2, ixN0, ixN1, List.append_assoc, sizeLine_eq, Option.getD_some, List.map_cons, List.map_nil, List.cons_append, List.nil_append, List.append_nil, List.length_cons, List.length_nil, List.replicate, List.getElem?_cons_zero, List.getElem?_cons_succ, List.set_cons_zero, List.set_cons_succ, Nat.sub_self, *])
local macro_rules | `(tactic| fail "wp") => `(tactic| repeat (first | fail "wp d" | fail "wp s"))
local macro_rules | `(tactic| fail "hit") => `(tactic| (intro Q h; first | exact h | (fail "wp"; done) | (fail "wp"; first | exact h | exact ⟨by omega, h⟩ | exact ⟨⟨by omega, by omega⟩, h⟩)))

section
variable {P : Program} {w : World} {K : PySem.W.Frag} {mg : Str → Option Value} {base : Heap}
theorem toQs_len {n w : Nat} : ∀ {ts : List T} {ds : List PyData}, toQs ts = some ds → PyData.weightAll ds ≤ w → ts.length ≤ w
  | [], _, _, _ => Nat.zero_le _
  | t :: ts, ds, e, h => by
    rw [toQs] at e
    split at e
    · rename_i d ds' e1 e2
      cases e
      simp only [PyData.weightAll] at h
      have := toQs_len (w := PyData.weightAll ds') e2 (Nat.le_refl _) (n := n)
      rw [List.length_cons]
      omega
    · cases e
theorem Tx.lenI {n w : Nat} {t : T} {ts : List T} (h : Tx n w t) (e : rowI t = some ts) : ts.length ≤ w ∧ ∀ u ∈ ts, Tx n w u := by
  cases t with
  | lst us =>
    cases e
    refine ⟨?_, h.lstI⟩
    obtain ⟨d, e, f⟩ := h
    rw [toQ, Option.map_eq_some_iff] at e
    obtain ⟨ds, e, rfl⟩ := e
    exact toQs_len (n := n) e f.wt
  | tup us =>
    cases e
    refine ⟨?_, h.tupI⟩
    obtain ⟨d, e, f⟩ := h
    rw [toQ, Option.map_eq_some_iff] at e
    obtain ⟨ds, e, rfl⟩ := e
    exact toQs_len (n := n) e f.wt
  | _ => cases e
theorem badI_at : ∀ {ts : List T} {i : Nat} {t : T}, ts[i]? = some t → rowB t = false → (∀ j < i, ∀ u, ts[j]? = some u → rowB u = true) → badI ts = some i
  | [], _, _, h, _, _ => by cases h
  | u :: ts, 0, t, h, hb, _ => by
    cases (show some u = some t from h)
    unfold badI
    rw [if_neg (by rw [hb]; decide)]
  | u :: ts, i + 1, t, h, hb, ha => by
    unfold badI
    rw [if_pos (ha 0 (Nat.succ_pos _) u rfl), badI_at (show ts[i]? = some t from h) hb fun j hj v hv => ha (j + 1) (Nat.succ_lt_succ hj) v hv]
    rfl
theorem badI_all {ts : List T} (h : ∀ (j : Nat) (t : T), ts[j]? = some t → rowB t = true) : badI ts = none := by
  cases e : badI ts with
  | none => rfl
  | some i =>
    obtain ⟨⟨t, h1, h2⟩, _⟩ := badI_some e
    rw [h i t h1] at h2
    cases h2
def f_Script_len : DS := (dRet (xC1 (xF1 lenT) (oE (dFld "_rows" (xV 0)))))

theorem ok_Script_len (Φ : Facts P w K mg base) : MCal P w K mg base 3 "Script" "__len__" P_Script_len (spF K mg 1 (bodyS 1 f_Script_len)) :=
  met_ok Φ.M_Script_len sc_Script_len fun fa cd A up s H Ek hr hG => by
    have tk := takes_of (X := cxOf (L2.CX P w) P w K mg base N_Script_len "Script.__len__" (defScope s_Script_len) fa cd A up s H Ek) (E := Ek) rfl rfl rfl rfl
    refine ⟨_, (pss_one (ps_ret (pe_callB (lenQc (K := K) rfl) (by rfl) Φ.B.len (by decide +kernel) (pa_cons (fldK (K := K) rfl (pv 0) rfl) pa_nil)))), ?_⟩
    unfold f_Script_len
    exact (snd_ret (snd_xC1 cs_xLen (snd_oE (snd_fld snd_xV))))

def S_Script_len : SpecT := fun ts st P X => ∃ us : List (List T), ts = [.ins "Script" [("_rows", .lst (us.map T.lst))]] ∧ us.length ≤ 1000 ∧ P (.fr (.int us.length)) st
theorem c_Script_len (Φ : Facts P w K mg base) : MCal P w K mg base 3 "Script" "__len__" P_Script_len (spF K mg 1 S_Script_len) := (ok_Script_len Φ).impF <|  by
  rintro ts st P X ⟨us, rfl, hl, q⟩
  unfold f_Script_len
  have hkk : List.lookup ("_rows" : Str) [(("_rows" : Str), T.lst (us.map T.lst))] = some (T.lst (us.map T.lst)) := by simp
  have hll : (us.map T.lst).length = us.length := List.length_map ..
  fail "wp"
def f_Script_rows : DS := (dRetO (dLc (diL (dFld "_rows" (xV 0))) (dgName 1) dYes (xC1 (xF1 listT) (xV 1)) [1]))

theorem ok_Script_rows (Φ : Facts P w K mg base) : MCal P w K mg base 3 "Script" "rows" P_Script_rows (spF K mg 1 (bodyS 2 f_Script_rows)) :=
  met_ok Φ.M_Script_rows sc_Script_rows fun fa cd A up s H Ek hr hG => by
    have tk := takes_of (X := cxOf (L2.CX P w) P w K mg base N_Script_rows "Script.rows" (defScope s_Script_rows) fa cd A up s H Ek) (E := Ek) rfl rfl rfl rfl
    refine ⟨_, (pss_one (ps_ret (pe_lc (own := [("row", 1)]) (g := gName 1) (tt := tYes) rfl sc_Script_rows.nd (piL (K := K) rfl (fldK (K := K) rfl (pv 0) rfl)) (blkOk_by (N := N_Script_rows) (sc := defScope s_Script_rows) (by decide +kernel)) (fun _ _ _ _ _ => (pg_name (i := 1) sc_Script_rows.nd rfl (by first | exact Or.inl rfl | exact Or.inr rfl))) (fun _ _ _ _ _ => pts_nil) (fun _ _ _ _ _ => (pe_fz (pe_callTy (listQc (K := K) rfl rfl) (by rfl) Φ.B.list (by decide +kernel) (pa_cons (pv 1) pa_nil))))))), ?_⟩
    unfold f_Script_rows
    exact (snd_retO (snd_lc (snd_iList (snd_fld snd_xV)) (snd_wName (by decide)) snd_yes (snd_fz (snd_xC1N cn_xList snd_xV))))

def S_Script_rows : SpecT := fun ts st P X => ∃ us : List (List T), ts = [.ins "Script" [("_rows", .lst (us.map T.lst))]] ∧ us.length ≤ 1000 ∧ P (.ow (.lst (us.map T.lst))) st
theorem c_Script_rows (Φ : Facts P w K mg base) : MCal P w K mg base 3 "Script" "rows" P_Script_rows (spF K mg 1 S_Script_rows) := (ok_Script_rows Φ).impF <|  by
  rintro ts st P X ⟨us, rfl, hl, q⟩
  unfold f_Script_rows
  have hkk : List.lookup ("_rows" : Str) [(("_rows" : Str), T.lst (us.map T.lst))] = some (T.lst (us.map T.lst)) := by simp
  fail "wp"
  refine dLcB_map id (by rw [List.length_map, sizeLine_eq]; omega) (fun t Q ht h => ?_) ?_
  · obtain ⟨u, hu, rfl⟩ := List.mem_map.mp ht
    fail "wp"
    exact h _ rfl
  · rw [List.map_id]
    fail "wp"
def lenF : T → T
  | .lst u => .int u.length
  | t => t
theorem toIs_len : ∀ us : List (List T), toIs (us.map (lenF ∘ T.lst)) = some (us.map fun u => (u.length : Int))
  | [] => rfl
  | u :: us => by
    rw [List.map_cons, show (lenF ∘ T.lst) u = .int u.length from rfl, toIs, toIs_len us]
    rfl
theorem sum_len : ∀ us : List (List T), (us.map fun u => (u.length : Int)).sum = ((us.map List.length).sum : Nat)
  | [] => rfl
  | u :: us => by rw [List.map_cons, List.map_cons, List.sum_cons, List.sum_cons, sum_len us]; rfl
def f_Script_cost : DS := (dRet (xC1 gSum (oE (dLc (diL (dFld "_rows" (xV 0))) (dgName 1) dYes (xC1 (xF1 lenT) (xV 1)) [1]))))

theorem ok_Script_cost (Φ : Facts P w K mg base) : MCalP P w K mg base 3 "Script" "cost" (spF K mg 1 (bodyS 2 f_Script_cost)) :=
  prop_ok Φ.M_Script_cost sc_Script_cost fun fa cd A up s H Ek hr hG => by
    have tk := takes_of (X := cxOf (L2.CX P w) P w K mg base N_Script_cost "Script.cost" (defScope s_Script_cost) fa cd A up s H Ek) (E := Ek) rfl rfl rfl rfl
    refine ⟨_, (pss_one (ps_ret (pe_callB (sumC (K := K) rfl rfl) (by rfl) Φ.B.sum (by decide +kernel) (pa_cons (pe_fz (pe_lc (own := [("row", 1)]) (g := gName 1) (tt := tYes) rfl sc_Script_cost.nd (piL (K := K) rfl (fldK (K := K) rfl (pv 0) rfl)) (blkOk_by (N := N_Script_cost) (sc := defScope s_Script_cost) (by decide +kernel)) (fun _ _ _ _ _ => (pg_name (i := 1) sc_Script_cost.nd rfl (by first | exact Or.inl rfl | exact Or.inr rfl))) (fun _ _ _ _ _ => pts_nil) (fun _ _ _ _ _ => (pe_callB (lenQc (K := K) rfl) (by rfl) Φ.B.len (by decide +kernel) (pa_cons (pv 1) pa_nil))))) pa_nil)))), ?_⟩
    unfold f_Script_cost
    exact (snd_ret (snd_xC1 cs_sum (snd_oE (snd_fz (snd_lc (snd_iList (snd_fld snd_xV)) (snd_wName (by decide)) snd_yes (snd_xC1 cs_xLen snd_xV))))))

def S_Script_cost : SpecT := fun ts st P X => ∃ us : List (List T), ts = [.ins "Script" [("_rows", .lst (us.map T.lst))]] ∧ us.length ≤ 1000 ∧ (∀ u ∈ us, u.length ≤ 100000) ∧ P (.fr (.int ((us.map List.length).sum : Nat))) st
theorem c_Script_cost (Φ : Facts P w K mg base) : MCalP P w K mg base 3 "Script" "cost" (spF K mg 1 S_Script_cost) := (ok_Script_cost Φ).impF <|  by
  rintro ts st P X ⟨us, rfl, hl, hu, q⟩
  unfold f_Script_cost
  have hkk : List.lookup ("_rows" : Str) [(("_rows" : Str), T.lst (us.map T.lst))] = some (T.lst (us.map T.lst)) := by simp
  fail "wp"
  refine dLcB_map lenF (by rw [List.length_map, sizeLine_eq]; omega) (fun t Q ht h => ?_) ?_
  · obtain ⟨u, hu, rfl⟩ := List.mem_map.mp ht
    fail "wp"
    exact h _ rfl
  · rw [List.map_map]
    fail "wp"
    refine ⟨_, toIs_len us, ?_⟩
    rw [sum_len]
    exact q
def f_Script_init : DS := (dSeq (dFor (diET (daCons (xVar 1) daNil)) (dgTup 2 (dgCons (dgName 2) (dgCons (dgName 3) dgNil)))
  (dIfS (dOr (dNot (dTest (xCallF 1 S_is_list (daCons (xVar 3) daNil)))) (dNot (dTest (xC1 gAll (oE (dLc (diLT (xVar 3)) (dgName 4) dYes (xCallF 1 S_is_act (daCons (xVar 4) daNil)) [4]))))))
  (dRaise1 "InvalidScript" "position" (daCons (xVar 2) daNil))
  dNext))
  (dSFld qFl "_rows" (dLc (diT (xVar 1)) (dgName 3) dYes (dLc (diLT (xVar 3)) (dgName 4) dYes (xC1 (xF1 tupleT) (xV 4)) [4]) [3]) (xV 0)))

theorem ok_Script_init (Φ : Facts P w K mg base) : MCalS P w K mg base 11 "Script" (spF K mg 2 (bodyS 5 f_Script_init)) :=
  met_okS Φ.M_Script_init sc_Script_init fun fa cd A up s H Ek hr hG => by
    obtain ⟨C_InvalidScript, x_InvalidScript⟩ := Φ.x_InvalidScript
    have tk := takes_of (X := cxOf (L2.CX P w) P w K mg base N_Script_init "Script.__init__" (defScope s_Script_init) fa cd A up s H Ek) (E := Ek) rfl rfl rfl rfl
    refine ⟨_, (pss_cons (ps_for (passes_of rfl) rfl (pi_enumT (K := K) rfl (by rfl) Φ.B.enumerate (pa_cons (pe_fz (pv 1)) pa_nil)) (gTupK (K := K) rfl rfl (pgs_cons (pg_name (i := 2) sc_Script_init.nd rfl (by first | exact Or.inl rfl | exact Or.inr rfl)) (pgs_cons (pg_name (i := 3) sc_Script_init.nd rfl (by first | exact Or.inl rfl | exact Or.inr rfl)) pgs_nil)))
        (pss_one (ps_if (PW.pt (pw_or (pt_not (pt_val (pe_fz (pe_cs (c_is_list Φ) (hr.mono (by decide)) hG (by rfl) (passAt tk) (pa_cons (pe_fz (pv 3)) pa_nil))))) (pw_or1 (pt_not (pt_val (pe_callB (allC (K := K) rfl rfl) (by rfl) Φ.B.all (by decide +kernel) (pa_cons (pe_fz (pe_lc (own := [("act", 4)]) (g := gName 4) (tt := tYes) rfl sc_Script_init.nd (pi_seq (K := K) rfl (pe_fz (pv 3))) (blkOk_by (N := N_Script_init) (sc := defScope s_Script_init) (by decide +kernel)) (fun _ _ _ _ _ => (pg_name (i := 4) sc_Script_init.nd rfl (by first | exact Or.inl rfl | exact Or.inr rfl))) (fun _ _ _ _ _ => pts_nil) (fun _ _ _ _ _ => (pe_fz (pe_cs (c_is_act Φ) (hr.mono (by decide)) hG (by rfl) (passAt takes_none5) (pa_cons (pe_fz (pv 4)) pa_nil)))))) pa_nil)))))))
        (pss_one (ps_raise rfl tk (pmk_x1 x_InvalidScript (hr.mono (by decide)) (by rfl) (pa_cons (pe_fz (pv 2)) pa_nil))))
        pss_nil)))
      (pss_one (sfK (K := K) rfl (pv 0) (pe_fz (pe_lc (own := [("row", 3)]) (g := gName 3) (tt := tYes) rfl sc_Script_init.nd (piT (K := K) rfl (pe_fz (pv 1))) (blkOk_by (N := N_Script_init) (sc := defScope s_Script_init) (by decide +kernel)) (fun _ _ _ _ _ => (pg_name (i := 3) sc_Script_init.nd rfl (by first | exact Or.inl rfl | exact Or.inr rfl))) (fun _ _ _ _ _ => pts_nil) (fun _ _ _ _ _ => (pe_fz (pe_lc (own := [("act", 4)]) (g := gName 4) (tt := tYes) rfl sc_Script_init.nd (pi_seq (K := K) rfl (pe_fz (pv 3))) (blkOk_by (by kernel_rfl)) (fun _ _ _ _ _ => (pg_name (i := 4) sc_Script_init.nd rfl (by first | exact Or.inl rfl | exact Or.inr rfl))) (fun _ _ _ _ _ => pts_nil) (fun _ _ _ _ _ => (pe_callTy (tupleC (K := K) rfl) (by rfl) Φ.B.tuple (by decide +kernel) (pa_cons (pv 4) pa_nil)))))))) rfl))), ?_⟩
    unfold f_Script_init
    exact (snd_seq (snd_for (snd_iEnumT (snd_cons snd_xVar snd_nil)) (snd_gTup (snd_gCons snd_gName (snd_gCons snd_gName snd_gNil)))
        (snd_ifS (snd_or (snd_not (snd_tB (snd_xCallF (snd_cons snd_xVar snd_nil)))) (snd_not (snd_tB (snd_xC1 cs_all (snd_oE (snd_fz (snd_lc (snd_iSeq snd_xVar) (snd_wName (by decide)) snd_yes (snd_xCallF (snd_cons snd_xVar snd_nil)))))))))
        (snd_raise1 x_InvalidScript.gC (snd_cons snd_xVar snd_nil))
        snd_next))
      (snd_sfld Φ.fl (snd_fz (snd_lc (snd_iTup snd_xVar) (snd_wName (by decide)) snd_yes (snd_fz (snd_lc (snd_iSeq snd_xVar) (snd_wName (by decide)) snd_yes (snd_xC1 cs_xTuple snd_xV))))) snd_xV))

def S_Script_init : SpecT := fun ts st P X => ∃ (k n w : Nat) (rows : List T), ts = [.cell k, .tup rows] ∧ st[k]? = some (false, .ins "Script" []) ∧ (∀ t ∈ rows, Tx n w t) ∧ w ≤ 100000 ∧ rows.length ≤ 1000 ∧
  (badI rows = none → P (.fr .non) (st.set k (false, .ins "Script" [("_rows", .lst (rows.map rowL))]))) ∧ ∀ i : Nat, badI rows = some i → X ⟨"InvalidScript", [("position", .int i)]⟩ st
theorem c_Script_init (Φ : Facts P w K mg base) : MCalS P w K mg base 11 "Script" (spF K mg 2 S_Script_init) := (ok_Script_init Φ).impF <|  by
  rintro ts st P X ⟨k, n, m, rows, rfl, hk, hr, hm, hl, q1, q2⟩
  unfold f_Script_init
  fail "wp"
  refine dForB_at (fun i ev => (∃ s2 s3, ev = ⟨[.fr (.cell k), .fr (.tup rows), s2, s3, .no], st⟩) ∧ ∀ j < i, ∀ t, rows[j]? = some t → rowB t = true) ⟨⟨_, _, rfl⟩, fun j hj => absurd hj (by omega)⟩ ?_ ?_
  · rintro i t ev hi ⟨⟨s2, s3, rfl⟩, ha⟩
    obtain ⟨u, hu, rfl⟩ := enumT_get hi
    have hx := hr u (List.mem_of_getElem? hu)
    fail "wp"
    refine ⟨u, n, m, rfl, hx, ?_⟩
    cases hk' : rowI u with
    | none =>
      fail "wp"
      exact q2 i (badI_at hu (by unfold rowB; rw [hk']) ha)
    | some ts =>
      obtain ⟨l1, l2⟩ := hx.lenI hk'
      have hu' : u = .lst ts ∨ u = .tup ts := by cases u <;> simp [rowI] at hk' <;> simp [hk']
      have hall : (ts.map actB).all id = ts.all actB := by rw [List.all_map]; rfl
      have hrow : rowB u = ts.all actB := by unfold rowB; rw [hk']
      have q2' := fun h : ts.all actB = false => q2 i (badI_at hu (by rw [hrow]; exact h) ha)
      have q3 : ts.all actB = true → ∀ j < i + 1, ∀ t, rows[j]? = some t → rowB t = true := fun h j hj t ht => by
        rcases Nat.lt_succ_iff_lt_or_eq.mp hj with hj | rfl
        · exact ha j hj t ht
        · rw [hu] at ht
          cases ht
          rw [hrow]; exact h
      clear q1 q2 ha hk' hrow
      rcases hu' with rfl | rfl
      all_goals
        fail "wp"
        rw [if_neg (show ¬ (some ts).isSome = false by simp)]
        refine dLcB_map (items := ts) (fun t => .bl (actB t)) (by rw [sizeLine_eq]; omega) (fun t Q ht h => ?_) ?_
        · fail "wp"
          exact ⟨t, n, m, rfl, l2 t ht, hm, h _ rfl⟩
        · fail "wp"
          refine ⟨_, toBs_map ts actB rfl, ?_⟩
          rw [hall]
          cases eb : ts.all actB with
          | false =>
            have z := q2' eb
            fail "wp"
          | true =>
            have z := q3 eb
            fail "wp"
            exact ⟨⟨_, _, rfl⟩, z⟩
  · rintro ev ⟨⟨s2, s3, rfl⟩, ha⟩
    have hb : badI rows = none := badI_all fun j t h => ha j (by rw [enumT_len]; exact (List.getElem?_eq_some_iff.mp h).1) t h
    have hg := badI_none hb
    have z := q1 hb
    clear q1 q2 ha
    fail "wp"
    refine dLcB_map rowL (by rw [sizeLine_eq]; omega) (fun t Q ht h => ?_) ?_
    · obtain ⟨l1, l2⟩ : ∃ ts, rowI t = some ts ∧ ts.all actB = true := by
        have := hg t ht
        unfold rowB at this
        split at this
        · rename_i ts e; exact ⟨ts, e, this⟩
        · cases this
      obtain ⟨e, hact⟩ := l2
      obtain ⟨l3, l4⟩ := (hr t ht).lenI e
      have hL : rowL t = .lst l1 := by unfold rowL; rw [e]; rfl
      rw [hL] at h
      have ht' : t = .lst l1 ∨ t = .tup l1 := by cases t <;> simp [rowI] at e <;> simp [e]
      clear hg e hL z hr
      rcases ht' with rfl | rfl
      all_goals
        fail "wp"
        refine dLcB_map id (by rw [sizeLine_eq]; omega) (fun t Q ht h => ?_) ?_
        · obtain ⟨us, rfl⟩ : ∃ us, t = .tup us := by
            have := List.all_eq_true.mp hact t ht
            cases t with
            | tup us => exact ⟨us, rfl⟩
            | _ => cases this
          fail "wp"
          exact h _ rfl
        · rw [List.map_id]
          exact h _ rfl
    · fail "wp"
      exact ⟨List.mem_singleton.mpr rfl, z⟩
end
end Fu
set_option Elab.async false
set_option linter.all false
set_option maxRecDepth 100000
set_option maxHeartbeats 4000000
namespace Fu
open PySem PySem.Spec PyProof.Rows L2 Hv
local macro_rules | `(tactic| fail "wp d") => `(tactic| dsimp only [dMk1, dMk2, dMk2r, dMk0, dXv, dIsV, dDisp, dTryC, clAs, clO, clNil, dRaise0, dIsiT, dIsXT, gReprQ, deref_ev, dMakeS, dProp, dRevT, dUp, diLT, diET, dTryAs, consO, dFor_eq, dLc_eq, dDc_eq, dLc2_eq, deref_non, deref_bl, deref_int, deref_str, deref_ty, deref_lst, deref_tup, deref_dct, deref_ins, deref_glob, deref_scr, deref_exc, deref_cell, truth_non, truth_bl, truth_int, truth_lst, truth_tup, truth_str, tagOf_non, tagOf_bl, tagOf_int, tagOf_str, tagOf_lst, tagOf_scr, tagOf_tup, tagOf_dct, tagOf_ins, toKey_int, toKey_str, isNon_non, isNon_bl, isNon_int, isNon_str, isNon_ty, isNon_lst, isNon_tup, isNon_dct, isNon_ins, isNon_glob, isNon_scr, isNon_exc, bodyS, startE, dSeq, dNext, dIfS, dRet, dRetO, dRetV, dRetN, dDrop, dBreak, dCont, dTest, dTru, dAnd, dOr, dNot, dAndV, dOrV, dNotV, dIfE, dChain, xC1, xC2, dOp, dC, dVar, xVar, takeV, om, omP, oV, xV, okSl, oE, daNil, daCons, drNil, drCons, dLst, dTup, dDct, vw, vws, look, dAsg, dgName, dgNil, dgCons, dgTup, dgSub, dSetO, dSetL, dPar, dPar3, dParOO, dParOF, dParFO, dYes, dNeg, dDGet, dDIn, dSl, dpNo, dpSome, dFld, dSFld, dCon, dCc, xFmt, fmtT, xFstr, jNil, jCons, joinT, seqT, xCallF, xCallO, xMeth, xMethO, Rt.val, Rt.isOw, dMake, dBox, dRaise1, dRaise2, dAppend, dExtend, dPopAt, dPop, dTmpAppend, dTmpPop, dDPut, dDPop1, xLk, xLkLc, lkM, lkOn, lkOff, lkOk, lkX, dIsi, xSort, sortP, dInO, dLenO, dEqO, dXf, dIsX, daKw, seeI, seeL, upto, uptoT, cellT, ansB, ansI, gI0, gIC, gSub', gFdiv, gMod, gPow, gLt, gLe, gGt, gGe, xAdd, addT, xMul, mulT, xEq, xIn, negB, inT, sign1_eq, gIs, gIsNot, xIx, ixT, ixC, gSlS, xSlL, slLT, gSlT, xF1, lenT, gAbs, gMax2, gMin2, int1T, gDivmod, bool1T, str1T, gAll, gAny, gSum, listT, tupleT, dictT, gRepr, gEqK, gAddL, wiped, wipeE, unw, unE, diL, diT, diS, diR1, diR2, diE, diK, diI, diV, xZ, zipO, diZK, diZV, zMapC, zMapN, zAppC, zAppN, zRepS, zRep0, zGet0, zGetS, zSet0, zSetS, zLenN, zLenC, zOMap, zONone, Nat.reduceAdd, Nat.reduceSub])
local macro_rules | `(tactic| fail "wp s") => `(tactic| simp only [gP_nil, gP_cons, is_NoneType_bool, is_NoneType_int, is_NoneType_list, is_NoneType_str, is_NoneType_tuple, is_bool_bool, is_bool_int, is_bool_list, is_bool_str, is_bool_tuple, is_dict_bool, is_dict_int, is_dict_list, is_dict_str, is_dict_tuple, is_int_bool, is_int_int, is_int_list, is_int_str, is_int_tuple, is_list_bool, is_list_int, is_list_list, is_list_str, is_list_tuple, is_str_bool, is_str_int, is_str_list, is_str_str, is_str_tuple, is_tuple_bool, is_tuple_int, is_tuple_list, is_tuple_str, is_tuple_tuple, ix_InvalidScript_HookError, ix_InvalidScript_StateError, cc_Boxes_MOST_VALUES, fl_Script, hd_InvalidScript_InvalidScript, xf_InvalidScript, ex_map, eqT_int, eqT_bl, eqT_str, inL_str, inL_strN, sign_inj, Nat.reduceAdd, Nat.reduceSub, Nat.reduceLeDiff, Nat.reduceLT, Nat.zero_lt_succ, Nat.succ_pos, if_true, if_false, Bool.false_eq_true, ite_true, ite_false, true_and, and_true, decide_eq_true_eq, decide_true, decide_false, exists_eq_left', exists_eq_left, T.str.injEq, T.int.injEq, T.bl.injEq, T.lst.injEq, T.tup.injEq, T.dct.injEq, T.cell.injEq, T.ins.injEq, exists_const, exists_and_left, Bool.not_true, Bool.not_false, eq_self, reduceIte, reduceCtorEq, Bool.not_eq_true', Bool.true_eq_false, and_false, false_and, exists_false, or_false, false_or, Option.some.injEq, List.getElem?_set_self, List.set_set, List.length_set, atI0, atI1, atI2, ixN0, ixN1, List.append_assoc, sizeLine_eq, Option.getD_some, List.map_cons, List.map_nil, List.cons_append, List.nil_append, List.append_nil, List.length_cons, List.length_nil, List.replicate, List.getElem?_cons_zero, List.getElem?_cons_succ, List.set_cons_zero, List.set_cons_succ, Nat.sub_self, *])
local macro_rules | `(tactic| fail "wp") => `(tactic| repeat (first | fail "wp d" | fail "wp s"))
local macro_rules | `(tactic| fail "hit") => `(tactic| (intro Q h; first | exact h | (fail "wp"; done) | (fail "wp"; first | exact h | exact ⟨by omega, h⟩ | exact ⟨⟨by omega, by omega⟩, h⟩)))

section
variable {P : Program} {w : World} {K : PySem.W.Frag} {mg : Str → Option Value} {base : Heap}
mutual
theorem noC_q : ∀ {t : T} {d : PyData}, toQ t = some d → noC t = true
  | .non, _, _ => rfl
  | .bl _, _, _ => rfl
  | .int _, _, _ => rfl
  | .str _, _, _ => rfl
  | .lst ts, _, e => by
    rw [toQ, Option.map_eq_some_iff] at e
    obtain ⟨ds, e, _⟩ := e
    rw [noC]; exact noCs_q e
  | .tup ts, _, e => by
    rw [toQ, Option.map_eq_some_iff] at e
    obtain ⟨ds, e, _⟩ := e
    rw [noC]; exact noCs_q e
  | .dct kts, _, e => by
    rw [toQ] at e
    rw [noC]; exact noCd_q e
  | .scr _, _, e => by simp [toQ] at e
  | .ins _ _, _, e => by simp [toQ] at e
  | .glob _, _, e => by simp [toQ] at e
  | .cell _, _, e => by simp [toQ] at e
  | .exc _ _ _ _, _, e => by simp [toQ] at e
  | .ev _ _, _, e => by simp [toQ] at e
  | .ty _, _, e => by simp [toQ] at e
theorem noCs_q : ∀ {ts : List T} {ds : List PyData}, toQs ts = some ds → noCs ts = true
  | [], _, _ => rfl
  | t :: ts, _, e => by
    rw [toQs] at e
    split at e
    · rename_i d ds h1 h2
      simp only [noCs, noC_q h1, noCs_q h2, Bool.and_self]
    · cases e
theorem noCd_q : ∀ {kts : List (Key × T)} {d : PyData}, toQd kts = some d → noCk kts = true
  | [], _, _ => rfl
  | (k, t) :: r, _, e => by
    rw [toQd] at e
    obtain ⟨x, d, _, rfl, e1, _⟩ := oneD_inv e
    simp only [noCk, noC_q e1, Bool.and_self]
end
theorem noCs_all : ∀ {ts : List T}, (∀ t ∈ ts, noC t = true) → noCs ts = true
  | [], _ => rfl
  | t :: ts, h => by simp only [noCs, h t (.head _), noCs_all fun u hu => h u (.tail _ hu), Bool.and_self]
theorem Tx.rowL {n w : Nat} {t : T} (h : Tx n w t) : Tx (n + 1) w (Fu.rowL t) := by
  cases t with
  | lst ts => exact h.le (Nat.le_succ _) (Nat.le_refl _)
  | tup ts =>
    obtain ⟨d, e, f⟩ := h
    rw [toQ, Option.map_eq_some_iff] at e
    obtain ⟨ds, e, rfl⟩ := e
    obtain ⟨a, b, c, d⟩ := f
    exact ⟨.list ds, by show toQ (.lst ts) = _; rw [toQ, e]; rfl, a, b, Nat.le_succ_of_le c, d⟩
  | _ => exact ⟨.list [], rfl, rfl, rfl, by show 0 + 1 ≤ _; omega, Nat.zero_le _⟩
theorem Tx.noC {n w : Nat} {t : T} (h : Tx n w t) : Fu.noC t = true := by
  obtain ⟨d, e, _⟩ := h
  exact noC_q e
/-- the text of data -/
def rp (t : T) : Str := match toQ t with
  | some d => d.shown
  | none => ""
theorem rp_of {t : T} {d : PyData} (e : toQ t = some d) : d.shown = rp t := by unfold rp; rw [e]
def f_told : DS := (dSeq (dAsg (dTup (daCons (dC .non) (daCons (dC .non) daNil))) (dgTup 2 (dgCons (dgName 3) (dgCons (dgName 4) dgNil))))
  (dSeq (dTryAs qHd_InvalidScript 5 (dAsg (dMakeS "Script" S_Script_init (daCons (xVar 0) (daCons (xVar 1) (daCons (xVar 2) daNil)))) (dgName 3))
  (fun a d x => (dAsg (dIfE (dAnd (dTest (dIsX qIx a d x (.inr "HookError") 5)) (dNot (dTest (dIsX qIx a d x (.inr "StateError") 5)))) (dLst (daCons (dC (.str "refused")) (daCons (dXf qXf a d x "position" 5) daNil))) (dLst daNil)) (dgName 4))))
  (dSeq (dIfS (dTest (dOp gIs (xV 3) (oE (dC .non))))
  (dRetV 4)
  dNext)
  (dRetO (dLst (daCons (dC (.str "made")) (daCons (xC1 gReprQ (oE (xMeth 1 "Script" S_Script_rows (xVar 3) daNil))) (daCons (dLenO 1 "Script" S_Script_len (xVar 3)) (daCons (dProp "Script" S_Script_cost (xVar 3)) daNil)))))))))

theorem ok_told (Φ : Facts P w K mg base) : Cal P w K mg base 13 "_law_told" P_told (spF K mg 3 (bodyS 6 f_told)) :=
  def_ok Φ.T_told sc_told fun fa cd A up s H Ek hr hG => by
    obtain ⟨C_HookError, g_HookError⟩ := Φ.g_HookError
    obtain ⟨C_StateError, g_StateError⟩ := Φ.g_StateError
    obtain ⟨C_InvalidScript, x_InvalidScript⟩ := Φ.x_InvalidScript
    have tk := takes_of (X := cxOf (L2.CX P w) P w K mg base N_told "_law_told" (defScope s_told) fa cd A up s H Ek) (E := Ek) rfl rfl rfl rfl
    refine ⟨_, (pss_cons (ps_asg (pe_tup (pa_cons pe_non (pa_cons pe_non pa_nil))) (gTupK (K := K) rfl rfl (pgs_cons (pg_name (i := 3) sc_told.nd rfl (by first | exact Or.inl rfl | exact Or.inr rfl)) (pgs_cons (pg_name (i := 4) sc_told.nd rfl (by first | exact Or.inl rfl | exact Or.inr rfl)) pgs_nil))))
      (pss_cons (ps_try_as (i := 5) rfl rfl sc_told.nd rfl rfl ⟨by rfl, by decide, .inl x_InvalidScript.gC⟩ tk (fun W1 pn1 xe1 tk1 po => (pss_one (ps_set (i := 3) sc_told.nd rfl (by first | exact Or.inl rfl | exact Or.inr rfl) (pe_mkS rfl Φ.mc_Script (c_Script_init Φ) (hr.mono (by decide)) hG (by rfl) (passAt tk1) (pa_cons (pe_fz (pv 0)) (pa_cons (pe_fz (pv 1)) (pa_cons (pe_fz (pv 2)) pa_nil)))))))
        (fun a oe cls d pn hz hf => (pss_one (ps_set (i := 4) sc_told.nd rfl (by first | exact Or.inl rfl | exact Or.inr rfl) (pe_ifExp (PW.pt (pw_and (pt_val (pe_callB (isxK (K := K) rfl hz hf) (by rfl) Φ.B.isinstance (by decide +kernel) (pa_cons (pv 5) (pa_cons (pe_glob (v := .ref C_HookError) (by rfl) g_HookError rfl) pa_nil)))) (pw_and1 (pt_not (pt_val (pe_callB (isxK (K := K) rfl hz hf) (by rfl) Φ.B.isinstance (by decide +kernel) (pa_cons (pv 5) (pa_cons (pe_glob (v := .ref C_StateError) (by rfl) g_StateError rfl) pa_nil)))))))) (pe_lst (pa_cons pe_str (pa_cons (xfK (K := K) rfl hz hf (pv 5)) pa_nil))) (pe_lst pa_nil))))))
      (pss_cons (ps_if (pt_cmpR op_isN (pv 3) pe_non (nomark _))
        (pss_one (ps_ret (pv 4)))
        pss_nil)
      (pss_one (ps_ret (pe_lst (pa_cons pe_str (pa_cons (pe_callB (reprQ (K := K) rfl Φ.sm (units65 hr) hG) (by rfl) Φ.B.repr (by decide +kernel) (pa_cons (pe_fz (pe_mt0' rfl (c_Script_rows Φ) (hr.mono (by decide)) hG (passAt tk) (pe_fz (pv 3)))) pa_nil)) (pa_cons (pe_callB (lenOK (K := K) rfl rfl (c_Script_len Φ) (hr.mono (by decide)) hG) (by rfl) Φ.B.len (by decide +kernel) (pa_cons (pe_fz (pv 3)) pa_nil)) (pa_cons (pe_fz (pe_pr rfl (c_Script_cost Φ) (hr.mono (by decide)) hG (pe_fz (pv 3)))) pa_nil)))))))))), ?_⟩
    unfold f_told
    exact (snd_seq (snd_asg (snd_tup (snd_cons snd_non (snd_cons snd_non snd_nil))) (snd_gTup (snd_gCons snd_gName (snd_gCons snd_gName snd_gNil))))
      (snd_seq (snd_tryAs (Φ.hd_InvalidScript _ x_InvalidScript.gC) (fun W => (snd_asg (snd_makeS Φ.mk_Script (snd_cons snd_xVar (snd_cons snd_xVar (snd_cons snd_xVar snd_nil)))) snd_gName))
        (fun a d x C m => (snd_asg (snd_ifE (snd_and (snd_tB (snd_isXO Φ.ix m g_HookError)) (snd_not (snd_tB (snd_isXO Φ.ix m g_StateError)))) (snd_lst (snd_cons snd_str (snd_cons (snd_xf Φ.xf m) snd_nil))) (snd_lst snd_nil)) snd_gName)))
      (snd_seq (snd_ifS (snd_test (snd_op os_is snd_xV (snd_oE snd_non)))
        snd_retV
        snd_next)
      (snd_retO (snd_lstN (snd_cons snd_str (snd_cons (snd_xC1 cs_reprQ (snd_oE (snd_xMeth (c_Script_rows Φ).has snd_xVar snd_nil))) (snd_cons (snd_lenO snd_xVar) (snd_cons (snd_prop snd_xVar) snd_nil)))))))))

def rowN (t : T) : Nat := ((rowI t).getD []).length
def S_told : SpecT := fun ts st P X => ∃ (n w : Nat) (a b c : T), ts = [a, b, c] ∧ (∀ t ∈ [a, b, c], Tx n w t) ∧ n ≤ 20 ∧ w ≤ 30000 ∧
  (badI [a, b, c] = none → ∀ (r : Rt) (more : Store), r.val = .lst [.str "made", .str (rp (.lst [rowL a, rowL b, rowL c])), .int 3, .int (rowN a + rowN b + rowN c : Nat)] → P r (st ++ more)) ∧
  ∀ i : Nat, badI [a, b, c] = some i → ∀ (r : Rt) (more : Store), r.val = .lst [.str "refused", .int i] → P r (st ++ more)
theorem row_len {n w : Nat} {t : T} (h : Tx n w t) : ((rowI t).getD []).length ≤ w := by
  cases e : rowI t with
  | none => exact Nat.zero_le _
  | some ts => exact (h.lenI e).1
theorem c_told (Φ : Facts P w K mg base) : Cal P w K mg base 13 "_law_told" P_told (spF K mg 3 S_told) := (ok_told Φ).impF <|  by
  rintro ts st P X ⟨n, m, a, b, c, rfl, ht, hn, hm, q1, q2⟩
  unfold f_told
  fail "wp"
  refine ⟨_, n, m, _, rfl, by simp, ht, by omega, by simp, fun hb => ?_, fun i hb => ?_⟩
  · have z := q1 hb
    have ha := ht a (.head _)
    have hb' := ht b (.tail _ (.head _))
    have hc := ht c (.tail _ (.tail _ (.head _)))
    have l1 := row_len ha
    have l2 := row_len hb'
    have l3 := row_len hc
    have hT : Tx (n + 1 + 1) (3 * (m + 1)) (.lst [rowL a, rowL b, rowL c]) := lst_w (m := 3) (List.forall_mem_cons.mpr ⟨ha.rowL, List.forall_mem_cons.mpr ⟨hb'.rowL, List.forall_mem_cons.mpr ⟨hc.rowL, (fun _ h => nomatch h)⟩⟩⟩) (by simp)
    obtain ⟨d, d0, d1, d2, d3⟩ := repr_tx hT (by omega) (by omega)
    have hd := rp_of d0
    have hnc : noCf [(("_rows" : Str), T.lst [rowL a, rowL b, rowL c])] = true := by
      have := hT.noC
      simp only [noCf, this, Bool.and_self]
    clear q1 q2 hb
    fail "wp"
    refine ⟨_, by simp, hnc, [(rowI a).getD [], (rowI b).getD [], (rowI c).getD []], rfl, by simp, ?_⟩
    have d0' : toQ (.lst [.lst ((rowI a).getD []), .lst ((rowI b).getD []), .lst ((rowI c).getD [])]) = some d := d0
    rw [sizeLine_eq] at d3
    fail "wp"
    refine ⟨hd ▸ d3, [(rowI a).getD [], (rowI b).getD [], (rowI c).getD []], rfl, by simp, ?_⟩
    have hsum : (([(rowI a).getD [], (rowI b).getD [], (rowI c).getD []].map List.length).sum : Nat) = rowN a + rowN b + rowN c := by
      simp only [List.map_cons, List.map_nil, List.sum_cons, List.sum_nil, rowN]; omega
    have z2 := z (.ow (.lst [.str "made", .str (rp (.lst [rowL a, rowL b, rowL c])), .int 3, .int (rowN a + rowN b + rowN c : Nat)])) [] rfl
    rw [List.append_nil, ← hsum] at z2
    refine ⟨by simp, by simp, [(rowI a).getD [], (rowI b).getD [], (rowI c).getD []], rfl, by simp, ?_, z2⟩
    intro u hu
    simp only [List.mem_cons, List.not_mem_nil, or_false] at hu
    rcases hu with rfl | rfl | rfl <;> omega
  · have z := q2 i hb
    clear q1 q2
    have hlk : List.lookup ("position" : Str) [(("position" : Str), T.int i)] = some (T.int i) := by simp
    fail "wp"
    intro x y
    exact ⟨by simp, by simp, List.mem_singleton.mpr rfl, z (.fr _) _ rfl⟩
end
end Fu
set_option Elab.async false
set_option linter.all false
set_option maxRecDepth 100000
set_option maxHeartbeats 4000000
namespace Fu
open PySem PySem.Spec PyProof.Rows L2 Hv
local macro_rules | `(tactic| fail "wp d") => `(tactic| dsimp only [dMk1, dMk2, dMk2r, dMk0, dXv, dIsV, dDisp, dTryC, clAs, clO, clNil, dRaise0, dIsiT, dIsXT, gReprQ, deref_ev, dMakeS, dProp, dRevT, dUp, diLT, diET, dTryAs, consO, dFor_eq, dLc_eq, dDc_eq, dLc2_eq, deref_non, deref_bl, deref_int, deref_str, deref_ty, deref_lst, deref_tup, deref_dct, deref_ins, deref_glob, deref_scr, deref_exc, deref_cell, truth_non, truth_bl, truth_int, truth_lst, truth_tup, truth_str, tagOf_non, tagOf_bl, tagOf_int, tagOf_str, tagOf_lst, tagOf_scr, tagOf_tup, tagOf_dct, tagOf_ins, toKey_int, toKey_str, isNon_non, isNon_bl, isNon_int, isNon_str, isNon_ty, isNon_lst, isNon_tup, isNon_dct, isNon_ins, isNon_glob, isNon_scr, isNon_exc, bodyS, startE, dSeq, dNext, dIfS, dRet, dRetO, dRetV, dRetN, dDrop, dBreak, dCont, dTest, dTru, dAnd, dOr, dNot, dAndV, dOrV, dNotV, dIfE, dChain, xC1, xC2, dOp, dC, dVar, xVar, takeV, om, omP, oV, xV, okSl, oE, daNil, daCons, drNil, drCons, dLst, dTup, dDct, vw, vws, look, dAsg, dgName, dgNil, dgCons, dgTup, dgSub, dSetO, dSetL, dPar, dPar3, dParOO, dParOF, dParFO, dYes, dNeg, dDGet, dDIn, dSl, dpNo, dpSome, dFld, dSFld, dCon, dCc, xFmt, fmtT, xFstr, jNil, jCons, joinT, seqT, xCallF, xCallO, xMeth, xMethO, Rt.val, Rt.isOw, dMake, dBox, dRaise1, dRaise2, dAppend, dExtend, dPopAt, dPop, dTmpAppend, dTmpPop, dDPut, dDPop1, xLk, xLkLc, lkM, lkOn, lkOff, lkOk, lkX, dIsi, xSort, sortP, dInO, dLenO, dEqO, dXf, dIsX, daKw, seeI, seeL, upto, uptoT, cellT, ansB, ansI, gI0, gIC, gSub', gFdiv, gMod, gPow, gLt, gLe, gGt, gGe, xAdd, addT, xMul, mulT, xEq, xIn, negB, inT, sign1_eq, gIs, gIsNot, xIx, ixT, ixC, gSlS, xSlL, slLT, gSlT, xF1, lenT, gAbs, gMax2, gMin2, int1T, gDivmod, bool1T, str1T, gAll, gAny, gSum, listT, tupleT, dictT, gRepr, gEqK, gAddL, wiped, wipeE, unw, unE, diL, diT, diS, diR1, diR2, diE, diK, diI, diV, xZ, zipO, diZK, diZV, zMapC, zMapN, zAppC, zAppN, zRepS, zRep0, zGet0, zGetS, zSet0, zSetS, zLenN, zLenC, zOMap, zONone, Nat.reduceAdd, Nat.reduceSub])
local macro_rules | `(tactic| fail "wp s") => `(tactic| simp only [gP_nil, gP_cons, is_NoneType_bool, is_NoneType_int, is_NoneType_list, is_NoneType_str, is_NoneType_tuple, is_bool_bool, is_bool_int, is_bool_list, is_bool_str, is_bool_tuple, is_dict_bool, is_dict_int, is_dict_list, is_dict_str, is_dict_tuple, is_int_bool, is_int_int, is_int_list, is_int_str, is_int_tuple, is_list_bool, is_list_int, is_list_list, is_list_str, is_list_tuple, is_str_bool, is_str_int, is_str_list, is_str_str, is_str_tuple, is_tuple_bool, is_tuple_int, is_tuple_list, is_tuple_str, is_tuple_tuple, ix_InvalidScript_HookError, ix_InvalidScript_StateError, cc_Boxes_MOST_VALUES, fl_Script, hd_InvalidScript_InvalidScript, xf_InvalidScript, ex_map, eqT_int, eqT_bl, eqT_str, inL_str, inL_strN, sign_inj, Nat.reduceAdd, Nat.reduceSub, Nat.reduceLeDiff, Nat.reduceLT, Nat.zero_lt_succ, Nat.succ_pos, if_true, if_false, Bool.false_eq_true, ite_true, ite_false, true_and, and_true, decide_eq_true_eq, decide_true, decide_false, exists_eq_left', exists_eq_left, T.str.injEq, T.int.injEq, T.bl.injEq, T.lst.injEq, T.tup.injEq, T.dct.injEq, T.cell.injEq, T.ins.injEq, exists_const, exists_and_left, Bool.not_true, Bool.not_false, eq_self, reduceIte, reduceCtorEq, Bool.not_eq_true', Bool.true_eq_false, and_false, false_and, exists_false, or_false, false_or, Option.some.injEq, List.getElem?_set_self, List.set_set, List.length_set, atI0, atI1, atI2, ixN0, ixN1, List.append_assoc, sizeLine_eq, Option.getD_some, List.map_cons, List.map_nil, List.cons_append, List.nil_append, List.append_nil, List.length_cons, List.length_nil, List.replicate, List.getElem?_cons_zero, List.getElem?_cons_succ, List.set_cons_zero, List.set_cons_succ, Nat.sub_self, *])
local macro_rules | `(tactic| fail "wp") => `(tactic| repeat (first | fail "wp d" | fail "wp s"))
local macro_rules | `(tactic| fail "hit") => `(tactic| (intro Q h; first | exact h | (fail "wp"; done) | (fail "wp"; first | exact h | exact ⟨by omega, h⟩ | exact ⟨⟨by omega, by omega⟩, h⟩)))

section
variable {P : Program} {w : World} {K : PySem.W.Frag} {mg : Str → Option Value} {base : Heap}
theorem potAt_app {st : Store} {k : Nat} (h : PotAt st k) (m : Store) : PotAt (st ++ m) k := by
  obtain ⟨b, c, e, c0, c1⟩ := h
  exact ⟨b, c, by rw [List.getElem?_append_left (List.getElem?_eq_some_iff.mp e).1]; exact e, c0, c1⟩
/-- rows of acts -/
def actRow (us : List T) : Prop := us.length ≤ 2 ∧ ∀ u ∈ us, Tx 1 423 u ∧ actB u = true
theorem fnil {Pr : T → Prop} : ∀ t ∈ ([] : List T), Pr t := fun _ h => nomatch h
theorem eq_made (s : Str) (n : Int) : eqT (.lst [.str "made", .str s, .int 3, .int n]) (.lst [.str "made", .str s, .int 3, .int n]) = some true :=
  eqT_refl (d := .list [.str "made", .str s, .int 3, .int n]) rfl (by simp [PyData.depth, PyData.depthAll])
theorem eq_ref (i : Int) : eqT (.lst [.str "refused", .int i]) (.lst [.str "refused", .int i]) = some true :=
  eqT_refl (d := .list [.str "refused", .int i]) rfl (by simp [PyData.depth, PyData.depthAll])
theorem acts_all {r : List T} (h : actRow r) : r.all actB = true := List.all_eq_true.mpr fun u hu => (h.2 u hu).2
/-- a row of acts, and one thing among them -/
theorem mix_all {r a b : List T} {t : T} (h : actRow r) (ha : ∀ u ∈ a, u ∈ r) (hb : ∀ u ∈ b, u ∈ r) : (a ++ t :: b).all actB = actB t := by
  have h1 : a.all actB = true := List.all_eq_true.mpr fun u hu => (h.2 u (ha u hu)).2
  have h2 : b.all actB = true := List.all_eq_true.mpr fun u hu => (h.2 u (hb u hu)).2
  rw [List.all_append, List.all_cons, h1, h2, Bool.and_true, Bool.true_and]
structure RowOk (ok : Bool) (R : List T) : Prop where
  len : R.length ≤ 5
  tx : ∀ u ∈ R, Tx 3 3000 u
  all : R.all actB = ok
theorem RowOk.lst {ok : Bool} {R : List T} (h : RowOk ok R) : Tx 4 15005 (.lst R) := lst_w (m := 5) h.tx h.len
theorem RowOk.tup {ok : Bool} {R : List T} (h : RowOk ok R) : Tx 4 15005 (.tup R) := tup_w (m := 5) h.tx h.len
theorem actRow.ok {r : List T} (h : actRow r) : RowOk true r := ⟨Nat.le_trans h.1 (by decide), fun u hu => (h.2 u hu).1.le (by decide) (by decide), acts_all h⟩
theorem mix_ok {r : List T} {t : T} {i : Int} (h : actRow r) (ht : Tx 3 3000 t) : RowOk (actB t) (cutT r none (some i) ++ t :: cutT r (some i) none) := by
  have l1 := cutT_len r none (some i)
  have l2 := cutT_len r (some i) none
  have l3 := h.1
  refine ⟨by rw [List.length_append, List.length_cons]; omega, mem3 (fun u hu => (h.2 u (cutT_mem hu)).1.le (by decide) (by decide)) ht fun u hu => (h.2 u (cutT_mem hu)).1.le (by decide) (by decide), mix_all h (fun u hu => cutT_mem hu) fun u hu => cutT_mem hu⟩
theorem RowOk.bl {ok : Bool} {R : List T} (h : RowOk ok R) : rowB (.lst R) = ok := h.all
theorem RowOk.bt {ok : Bool} {R : List T} (h : RowOk ok R) : rowB (.tup R) = ok := h.all
theorem bad3 (a b c : T) : badI [a, b, c] = if rowB a = true then (if rowB b = true then (if rowB c = true then none else some 2) else some 1) else some 0 := by
  unfold badI badI badI badI
  split
  · split
    · split <;> rfl
    · rfl
  · rfl
/-- no rows -/
structure OddOk (t : T) : Prop where
  tx : Tx 3 3000 t
  no : rowB t = false
def f_rows_right : DS := (dSeq (dSetO 2 (dLc (diR1 (daCons (dC (.int 3)) daNil)) (dgName 9) dYes (dLc (diR1 (daCons (xCallF 2 S_draw (daCons (xVar 0) (daCons (dC (.int 3)) daNil))) daNil)) (dgName 10) dYes (xCallF 1 S_act (daCons (xVar 0) daNil)) [10]) [9]))
  (dSeq (dAsg (xCallF 2 S_draw (daCons (xVar 0) (daCons (dC (.int 3)) daNil))) (dgName 3))
  (dSeq (dAsg (xCallF 2 S_draw (daCons (xVar 0) (daCons (dOp xAdd (oE (xC1 (xF1 lenT) (oE (dOp xIx (xV 2) (xV 3))))) (oE (dC (.int 1)))) daNil))) (dgName 4))
  (dSeq (dAsg (dOp xAdd (oE (dOp xAdd (oE (dSl xSlL (oE (dOp xIx (xV 2) (xV 3))) dpNo (dpSome (xVar 4)))) (oE (dLst (daCons (xVar 1) daNil))))) (oE (dSl xSlL (oE (dOp xIx (xV 2) (xV 3))) (dpSome (xVar 4)) dpNo))) (dgSub (xV 2) (xV 3)))
  (dSeq (dAsg (xC1 gReprQ (xV 2)) (dgName 5))
  (dSeq (dAsg (dLst (daCons (dC (.str "refused")) (daCons (xVar 3) daNil))) (dgName 6))
  (dSeq (dIfS (dTest (xCallF 1 S_l_is_act (daCons (xVar 1) daNil)))
  (dAsg (dLst (daCons (dC (.str "made")) (daCons (xVar 5) (daCons (dC (.int 3)) (daCons (dOp xAdd (oE (dOp xAdd (oE (xC1 (xF1 lenT) (oE (dOp xIx (xV 2) (oE (dC (.int 0))))))) (oE (xC1 (xF1 lenT) (oE (dOp xIx (xV 2) (oE (dC (.int 1))))))))) (oE (xC1 (xF1 lenT) (oE (dOp xIx (xV 2) (oE (dC (.int 2)))))))) daNil))))) (dgName 6))
  dNext)
  (dSeq (dIfS (dOr (dTest (dOp (xEq true) (oE (xCallF 3 S_told (daCons (dOp xIx (xV 2) (oE (dC (.int 0)))) (daCons (xC1 (xF1 tupleT) (oE (dOp xIx (xV 2) (oE (dC (.int 1)))))) (daCons (dOp xIx (xV 2) (oE (dC (.int 2)))) daNil))))) (xV 6))) (dTest (dOp (xEq true) (oE (xC1 gReprQ (xV 2))) (xV 5))))
  (dRet (dC (.bl false)))
  dNext)
  (dSeq (dAsg (xCallF 2 S_pick (daCons (xVar 0) (daCons (dLst (daCons (dC .non) (daCons (dC (.str "look")) (daCons (dTup (daCons (dC (.str "look")) daNil)) (daCons dDct (daCons (dC (.int 0)) (daCons (dC (.bl true)) (daCons (dLst (daCons (dLst (daCons (dC (.str "look")) daNil)) daNil)) (daCons (dLst (daCons (dLst (daCons (dTup (daCons (dC (.str "look")) daNil)) daNil)) daNil)) daNil))))))))) daNil))) (dgName 7))
  (dSeq (dIfS (dTest (dOp (xEq false) (xV 3) (oE (dC (.int 0)))))
  (dRet (dOp (xEq false) (oE (xCallF 3 S_told (daCons (dOp xIx (xV 2) (oE (dC (.int 0)))) (daCons (xVar 7) (daCons (dOp xIx (xV 2) (oE (dC (.int 2)))) daNil))))) (oE (dIfE (dTest (xCallF 1 S_l_is_act (daCons (xVar 1) daNil))) (dLst (daCons (dC (.str "refused")) (daCons (dC (.int 1)) daNil))) (xVar 6)))))
  dNext)
  (dSeq (dAsg (dIfE (dTest (dOp (xEq false) (xV 3) (oE (dC (.int 2))))) (dOp xIx (xV 2) (oE (dC (.int 0)))) (dOp xIx (xV 2) (oE (dC (.int 2))))) (dgName 8))
  (dRet (dOp (xEq false) (oE (xCallF 3 S_told (daCons (xVar 7) (daCons (xVar 8) (daCons (dOp xIx (xV 2) (xV 3)) daNil))))) (oE (dLst (daCons (dC (.str "refused")) (daCons (dC (.int 0)) daNil)))))))))))))))))

theorem ok_rows_right (Φ : Facts P w K mg base) : Cal P w K mg base 15 "_law_rows_right" P_rows_right (spF K mg 2 (bodyS 11 f_rows_right)) :=
  def_ok Φ.T_rows_right sc_rows_right fun fa cd A up s H Ek hr hG => by
    have tk := takes_of (X := cxOf (L2.CX P w) P w K mg base N_rows_right "_law_rows_right" (defScope s_rows_right) fa cd A up s H Ek) (E := Ek) rfl rfl rfl rfl
    refine ⟨_, (pss_cons (ps_setLc (i := 2) (own := [("_law_row", 9)]) (g := gName 9) (tt := tYes) rfl sc_rows_right.nd rfl rfl (sw_true rfl rfl rfl (by decide +kernel)) (pi_range1 (by rfl) Φ.B.range (pa_cons pe_int pa_nil)) (blkOk_by (N := N_rows_right) (sc := defScope s_rows_right) (by decide +kernel)) (fun _ _ _ _ _ => (pg_name (i := 9) sc_rows_right.nd rfl (by first | exact Or.inl rfl | exact Or.inr rfl))) (fun _ _ _ _ _ => pts_nil) (fun _ _ _ _ _ => (pe_fz (pe_lc (own := [("_law_turn", 10)]) (g := gName 10) (tt := tYes) rfl sc_rows_right.nd (pi_range1 (by rfl) Φ.B.range (pa_cons (pe_fz (pe_cs (c_draw Φ) (hr.mono (by decide)) hG (by rfl) (passAt takes_none5) (pa_cons (pe_fz (pv 0)) (pa_cons pe_int pa_nil)))) pa_nil)) (blkOk_by (by kernel_rfl)) (fun _ _ _ _ _ => (pg_name (i := 10) sc_rows_right.nd rfl (by first | exact Or.inl rfl | exact Or.inr rfl))) (fun _ _ _ _ _ => pts_nil) (fun _ _ _ _ _ => (pe_fz (pe_cs (c_act Φ) (hr.mono (by decide)) hG (by rfl) (passAt takes_none5) (pa_cons (pe_fz (pv 0)) pa_nil))))))))
      (pss_cons (ps_set (i := 3) sc_rows_right.nd rfl (by first | exact Or.inl rfl | exact Or.inr rfl) (pe_fz (pe_cs (c_draw Φ) (hr.mono (by decide)) hG (by rfl) (passAt tk) (pa_cons (pe_fz (pv 0)) (pa_cons pe_int pa_nil)))))
      (pss_cons (ps_set (i := 4) sc_rows_right.nd rfl (by first | exact Or.inl rfl | exact Or.inr rfl) (pe_fz (pe_cs (c_draw Φ) (hr.mono (by decide)) hG (by rfl) (passAt tk) (pa_cons (pe_fz (pv 0)) (pa_cons (pe_op (addO (K := K) rfl) (pe_callB (lenQc (K := K) rfl) (by rfl) Φ.B.len (by decide +kernel) (pa_cons (pe_ix (ixS (K := K) rfl) (pv 2) (pv 3) (fun _ _ => rfl)) pa_nil)) pe_int) pa_nil)))))
      (pss_cons (ps_asg (pe_op (addO (K := K) rfl) (pe_op (addO (K := K) rfl) (pe_slice (slL (K := K) rfl) (pe_ix (ixS (K := K) rfl) (pv 2) (pv 3) (fun _ _ => rfl)) po_none (po_some (pe_fz (pv 4)))) (pe_lst (pa_cons (pe_fz (pv 1)) pa_nil))) (pe_slice (slL (K := K) rfl) (pe_ix (ixS (K := K) rfl) (pv 2) (pv 3) (fun _ _ => rfl)) (po_some (pe_fz (pv 4))) po_none)) (pg_sub (pv 2) (pv 3) set_list (by first | (intro v; rfl) | skip)))
      (pss_cons (ps_set (i := 5) sc_rows_right.nd rfl (by first | exact Or.inl rfl | exact Or.inr rfl) (pe_callB (reprQ (K := K) rfl Φ.sm (units65 hr) hG) (by rfl) Φ.B.repr (by decide +kernel) (pa_cons (pv 2) pa_nil)))
      (pss_cons (ps_set (i := 6) sc_rows_right.nd rfl (by first | exact Or.inl rfl | exact Or.inr rfl) (pe_lst (pa_cons pe_str (pa_cons (pe_fz (pv 3)) pa_nil))))
      (pss_cons (ps_if (pt_val (pe_fz (pe_cs (c_l_is_act Φ) (hr.mono (by decide)) hG (by rfl) (passAt tk) (pa_cons (pe_fz (pv 1)) pa_nil))))
        (pss_one (ps_set (i := 6) sc_rows_right.nd rfl (by first | exact Or.inl rfl | exact Or.inr rfl) (pe_lst (pa_cons pe_str (pa_cons (pe_fz (pv 5)) (pa_cons pe_int (pa_cons (pe_op (addO (K := K) rfl) (pe_op (addO (K := K) rfl) (pe_callB (lenQc (K := K) rfl) (by rfl) Φ.B.len (by decide +kernel) (pa_cons (pe_ix (ixS (K := K) rfl) (pv 2) pe_int (fun _ _ => rfl)) pa_nil)) (pe_callB (lenQc (K := K) rfl) (by rfl) Φ.B.len (by decide +kernel) (pa_cons (pe_ix (ixS (K := K) rfl) (pv 2) pe_int (fun _ _ => rfl)) pa_nil))) (pe_callB (lenQc (K := K) rfl) (by rfl) Φ.B.len (by decide +kernel) (pa_cons (pe_ix (ixS (K := K) rfl) (pv 2) pe_int (fun _ _ => rfl)) pa_nil))) pa_nil)))))))
        pss_nil)
      (pss_cons (ps_if (PW.pt (pw_or (pt_cmpR (neO (K := K) rfl (units65 hr)) (pe_fz (pe_cs (c_told Φ) (hr.mono (by decide)) hG (by rfl) (passAt tk) (pa_cons (pe_ix (ixS (K := K) rfl) (pv 2) pe_int (fun _ _ => rfl)) (pa_cons (pe_callTy (tupleC (K := K) rfl) (by rfl) Φ.B.tuple (by decide +kernel) (pa_cons (pe_ix (ixS (K := K) rfl) (pv 2) pe_int (fun _ _ => rfl)) pa_nil)) (pa_cons (pe_ix (ixS (K := K) rfl) (pv 2) pe_int (fun _ _ => rfl)) pa_nil))))) (pv 6) (nomark _)) (pw_or1 (pt_cmpR (neO (K := K) rfl (units65 hr)) (pe_callB (reprQ (K := K) rfl Φ.sm (units65 hr) hG) (by rfl) Φ.B.repr (by decide +kernel) (pa_cons (pv 2) pa_nil)) (pv 5) (nomark _)))))
        (pss_one (ps_ret pe_bl))
        pss_nil)
      (pss_cons (ps_set (i := 7) sc_rows_right.nd rfl (by first | exact Or.inl rfl | exact Or.inr rfl) (pe_fz (pe_cs (c_pick Φ) (hr.mono (by decide)) hG (by rfl) (passAt tk) (pa_cons (pe_fz (pv 0)) (pa_cons (pe_lst (pa_cons pe_non (pa_cons pe_str (pa_cons (pe_tup (pa_cons pe_str pa_nil)) (pa_cons (pe_fz pe_dnewK) (pa_cons pe_int (pa_cons pe_bl (pa_cons (pe_lst (pa_cons (pe_lst (pa_cons pe_str pa_nil)) pa_nil)) (pa_cons (pe_lst (pa_cons (pe_lst (pa_cons (pe_tup (pa_cons pe_str pa_nil)) pa_nil)) pa_nil)) pa_nil))))))))) pa_nil)))))
      (pss_cons (ps_if (pt_cmpR (eqO (K := K) rfl (units65 hr)) (pv 3) pe_int (nomark _))
        (pss_one (ps_ret (pe_cmpR (eqO (K := K) rfl (units65 hr)) (pe_fz (pe_cs (c_told Φ) (hr.mono (by decide)) hG (by rfl) (passAt tk) (pa_cons (pe_ix (ixS (K := K) rfl) (pv 2) pe_int (fun _ _ => rfl)) (pa_cons (pe_fz (pv 7)) (pa_cons (pe_ix (ixS (K := K) rfl) (pv 2) pe_int (fun _ _ => rfl)) pa_nil))))) (pe_ifExp (pt_val (pe_fz (pe_cs (c_l_is_act Φ) (hr.mono (by decide)) hG (by rfl) (passAt tk) (pa_cons (pe_fz (pv 1)) pa_nil)))) (pe_lst (pa_cons pe_str (pa_cons pe_int pa_nil))) (pe_fz (pv 6))) (nomark _))))
        pss_nil)
      (pss_cons (ps_set (i := 8) sc_rows_right.nd rfl (by first | exact Or.inl rfl | exact Or.inr rfl) (pe_ifExp (pt_cmpR (eqO (K := K) rfl (units65 hr)) (pv 3) pe_int (nomark _)) (pe_ix (ixS (K := K) rfl) (pv 2) pe_int (fun _ _ => rfl)) (pe_ix (ixS (K := K) rfl) (pv 2) pe_int (fun _ _ => rfl))))
      (pss_one (ps_ret (pe_cmpR (eqO (K := K) rfl (units65 hr)) (pe_fz (pe_cs (c_told Φ) (hr.mono (by decide)) hG (by rfl) (passAt tk) (pa_cons (pe_fz (pv 7)) (pa_cons (pe_fz (pv 8)) (pa_cons (pe_ix (ixS (K := K) rfl) (pv 2) (pv 3) (fun _ _ => rfl)) pa_nil))))) (pe_lst (pa_cons pe_str (pa_cons pe_int pa_nil))) (nomark _))))))))))))))), ?_⟩
    unfold f_rows_right
    exact (snd_seq (snd_setO (snd_lc (snd_iR1 (snd_cons snd_int snd_nil)) (snd_wName (by decide)) snd_yes (snd_fz (snd_lc (snd_iR1 (snd_cons (snd_xCallF (snd_cons snd_xVar (snd_cons snd_int snd_nil))) snd_nil)) (snd_wName (by decide)) snd_yes (snd_xCallF (snd_cons snd_xVar snd_nil))))))
      (snd_seq (snd_asg (snd_xCallF (snd_cons snd_xVar (snd_cons snd_int snd_nil))) snd_gName)
      (snd_seq (snd_asg (snd_xCallF (snd_cons snd_xVar (snd_cons (snd_op os_xAdd (snd_oE (snd_xC1 cs_xLen (snd_oE (snd_op os_xIx snd_xV snd_xV)))) (snd_oE snd_int)) snd_nil))) snd_gName)
      (snd_seq (snd_asg (snd_op os_xAdd (snd_oE (snd_op os_xAdd (snd_oE (snd_sl os_xSlL (snd_oE (snd_op os_xIx snd_xV snd_xV)) snd_pNo (snd_pSome snd_xVar))) (snd_oE (snd_lst (snd_cons snd_xVar snd_nil))))) (snd_oE (snd_sl os_xSlL (snd_oE (snd_op os_xIx snd_xV snd_xV)) (snd_pSome snd_xVar) snd_pNo))) (snd_gSub snd_xV snd_xV))
      (snd_seq (snd_asg (snd_xC1 cs_reprQ snd_xV) snd_gName)
      (snd_seq (snd_asg (snd_lst (snd_cons snd_str (snd_cons snd_xVar snd_nil))) snd_gName)
      (snd_seq (snd_ifS (snd_tB (snd_xCallF (snd_cons snd_xVar snd_nil)))
        (snd_asg (snd_lst (snd_cons snd_str (snd_cons snd_xVar (snd_cons snd_int (snd_cons (snd_op os_xAdd (snd_oE (snd_op os_xAdd (snd_oE (snd_xC1 cs_xLen (snd_oE (snd_op os_xIx snd_xV (snd_oE snd_int))))) (snd_oE (snd_xC1 cs_xLen (snd_oE (snd_op os_xIx snd_xV (snd_oE snd_int))))))) (snd_oE (snd_xC1 cs_xLen (snd_oE (snd_op os_xIx snd_xV (snd_oE snd_int)))))) snd_nil))))) snd_gName)
        snd_next)
      (snd_seq (snd_ifS (snd_or (snd_test (snd_op os_xNe (snd_oE (snd_xCallF (snd_cons (snd_op os_xIx snd_xV (snd_oE snd_int)) (snd_cons (snd_xC1 cs_xTuple (snd_oE (snd_op os_xIx snd_xV (snd_oE snd_int)))) (snd_cons (snd_op os_xIx snd_xV (snd_oE snd_int)) snd_nil))))) snd_xV)) (snd_test (snd_op os_xNe (snd_oE (snd_xC1 cs_reprQ snd_xV)) snd_xV)))
        (snd_ret snd_bl)
        snd_next)
      (snd_seq (snd_asg (snd_xCallF (snd_cons snd_xVar (snd_cons (snd_lst (snd_cons snd_non (snd_cons snd_str (snd_cons (snd_tup (snd_cons snd_str snd_nil)) (snd_cons (snd_fz snd_dctN) (snd_cons snd_int (snd_cons snd_bl (snd_cons (snd_lst (snd_cons (snd_lst (snd_cons snd_str snd_nil)) snd_nil)) (snd_cons (snd_lst (snd_cons (snd_lst (snd_cons (snd_tup (snd_cons snd_str snd_nil)) snd_nil)) snd_nil)) snd_nil))))))))) snd_nil))) snd_gName)
      (snd_seq (snd_ifS (snd_test (snd_op os_xEq snd_xV (snd_oE snd_int)))
        (snd_ret (snd_op os_xEq (snd_oE (snd_xCallF (snd_cons (snd_op os_xIx snd_xV (snd_oE snd_int)) (snd_cons snd_xVar (snd_cons (snd_op os_xIx snd_xV (snd_oE snd_int)) snd_nil))))) (snd_oE (snd_ifE (snd_tB (snd_xCallF (snd_cons snd_xVar snd_nil))) (snd_lst (snd_cons snd_str (snd_cons snd_int snd_nil))) snd_xVar))))
        snd_next)
      (snd_seq (snd_asg (snd_ifE (snd_test (snd_op os_xEq snd_xV (snd_oE snd_int))) (snd_op os_xIx snd_xV (snd_oE snd_int)) (snd_op os_xIx snd_xV (snd_oE snd_int))) snd_gName)
      (snd_ret (snd_op os_xEq (snd_oE (snd_xCallF (snd_cons snd_xVar (snd_cons snd_xVar (snd_cons (snd_op os_xIx snd_xV snd_xV) snd_nil))))) (snd_oE (snd_lst (snd_cons snd_str (snd_cons snd_int snd_nil)))))))))))))))))

def S_rows_right : SpecT := fun ts st P X => ∃ (k : Nat) (t : T), ts = [.cell k, t] ∧ PotAt st k ∧ Tx 3 3000 t ∧ ∀ st', PotAt st' k → P (.fr (.bl true)) st'
theorem c_rows_right (Φ : Facts P w K mg base) : Cal P w K mg base 15 "_law_rows_right" P_rows_right (spF K mg 2 S_rows_right) := (ok_rows_right Φ).impF <|  by
  rintro ts st P X ⟨k, t, rfl, hp, ht, q⟩
  have hk := hp.lt
  unfold f_rows_right
  fail "wp"
  refine ⟨⟨by decide, by decide⟩, ?_⟩
  refine dLcB_at (fun i acc ev => (∃ S, PotAt S k ∧ ev = ⟨[.fr (.cell k), .fr t, .no, .no, .no, .no, .no, .no, .no, .no, .no], S⟩) ∧ ∃ us : List (List T), us.length = i ∧ (∀ u ∈ us, actRow u) ∧ acc = us.map T.lst) ⟨⟨st, hp, rfl⟩, [], rfl, (fun _ h => nomatch h), rfl⟩ ?_ ?_
  · rintro i u acc ev hi ⟨⟨S, hS, rfl⟩, us, hl, hu, rfl⟩
    obtain ⟨h1, rfl⟩ := rangeT_get hi
    have hkS := hS.lt
    fail "wp"
    refine ⟨k, _, rfl, hS, by decide, by decide, fun d b c d0 d1 c0 c1 => ?_⟩
    have hS2 := potSt_at (b := b) (c := c) hkS c0 c1
    generalize potSt S k b c = S2 at hS2 ⊢
    clear hS hkS
    fail "wp"
    refine ⟨⟨by omega, by omega⟩, ?_⟩
    refine dLcB_at (fun j acc ev => (∃ S, PotAt S k ∧ ev = ⟨[.fr (.cell k), .fr t, .no, .no, .no, .no, .no, .no, .no, .fr (.int (0 + i)), .no], S⟩) ∧ acc.length = j ∧ ∀ u ∈ acc, Tx 1 423 u ∧ actB u = true) ⟨⟨S2, hS2, rfl⟩, rfl, (fun _ h => nomatch h)⟩ ?_ ?_
    · rintro j u acc ev hj ⟨⟨S, hS, rfl⟩, hla, ha⟩
      obtain ⟨j1, rfl⟩ := rangeT_get hj
      have hkS := hS.lt
      fail "wp"
      refine ⟨k, rfl, hS, fun z r b c hz e0 e1 => ?_⟩
      fail "wp d"
      refine ⟨by omega, ⟨_, potSt_at hkS e0 e1, rfl⟩, by rw [List.length_append, hla]; rfl, fun v hv => ?_⟩
      rcases List.mem_append.mp hv with hv | hv
      · exact ha v hv
      · rw [List.mem_singleton.mp hv]; exact ⟨hz.t, hz.act⟩
    · rintro acc ev ⟨⟨S, hS, rfl⟩, hla, ha⟩
      rw [rangeT_len] at hla
      fail "wp d"
      refine ⟨by rw [List.length_map, hl]; omega, ⟨S, hS, rfl⟩, us ++ [acc], by rw [List.length_append, hl]; rfl, fun v hv => ?_, by rw [List.map_append]; rfl⟩
      rcases List.mem_append.mp hv with hv | hv
      · exact hu v hv
      · rw [List.mem_singleton.mp hv]; exact ⟨by omega, ha⟩
  · rintro acc ev ⟨⟨S, hS, rfl⟩, us, hl, hu, rfl⟩
    rw [rangeT_len] at hl
    obtain ⟨r0, r1, r2, rfl⟩ : ∃ r0 r1 r2, us = [r0, r1, r2] := by
      match us, hl with
      | [a, b, c], _ => exact ⟨a, b, c, rfl⟩
    have h0 := hu r0 (.head _)
    have h1 := hu r1 (.tail _ (.head _))
    have h2 := hu r2 (.tail _ (.tail _ (.head _)))
    have hi2 : ixN 3 2 = some 2 := rfl
    have hkS := hS.lt
    clear hu hl
    fail "wp"
    refine ⟨k, _, rfl, hS, by decide, by decide, fun d b c d0 d1 c0 c1 => ?_⟩
    have hS2 := potSt_at (b := b) (c := c) hkS c0 c1
    generalize potSt S k b c = S2 at hS2 ⊢
    clear hS hkS
    rcases (by omega : d = 0 ∨ d = 1 ∨ d = 2) with rfl | rfl | rfl
    · have hl0 := h0.1
      fail "wp"
      refine ⟨k, _, rfl, hS2, by omega, by omega, fun i b c i0 i1 c0 c1 => ?_⟩
      have hS3 := potSt_at (b := b) (c := c) hS2.lt c0 c1
      generalize potSt S2 k b c = S at hS3 ⊢
      clear hS2
      have hR := mix_ok (i := i) h0 ht
      have l1 := cutT_len r0 none (some i)
      have l2 := cutT_len r0 (some i) none
      fail "wp"
      refine ⟨by omega, by rw [List.length_append, List.length_singleton]; omega, ?_⟩
      generalize cutT r0 none (some i) ++ t :: cutT r0 (some i) none = R at hR ⊢
      clear l1 l2 hl0
      have g0 := h0.ok
      have g1 := h1.ok
      have g2 := h2.ok
      have hT : Tx 5 45018 (.lst [.lst R, .lst r1, .lst r2]) := lst_w (m := 3) (List.forall_mem_cons.mpr ⟨hR.lst, List.forall_mem_cons.mpr ⟨g1.lst, List.forall_mem_cons.mpr ⟨g2.lst, fnil⟩⟩⟩) (by simp)
      obtain ⟨D, D0, D1, D2, D3⟩ := repr_tx hT (by decide) (by decide)
      rw [sizeLine_eq] at D3
      have hall : ∀ u ∈ ([.lst R, .tup r1, .lst r2] : List T), Tx 4 15005 u := List.forall_mem_cons.mpr ⟨hR.lst, List.forall_mem_cons.mpr ⟨g1.tup, List.forall_mem_cons.mpr ⟨g2.lst, fnil⟩⟩⟩
      have hbad : badI [.lst R, .tup r1, .lst r2] = if actB t = true then none else some 0 := by
        rw [bad3, hR.bl, g1.bt, g2.bl]
        cases actB t <;> rfl
      have hmade := eq_made D.shown (↑R.length + ↑r1.length + ↑r2.length : Int)
      have href := eq_ref
      fail "wp"
      refine ⟨t, 3, 3000, rfl, ht, by decide, ?_⟩
      cases ea : actB t with
      | false =>
        rw [ea] at hbad
        replace hbad : badI [.lst R, .tup r1, .lst r2] = some 0 := hbad
        fail "wp"
        refine ⟨4, 15005, _, _, _, rfl, hall, by decide, by decide, fun hb => (nomatch hbad.symm.trans hb), fun j hj r more hr => ?_⟩
        obtain rfl : j = 0 := by
          exact (Option.some.inj (hbad.symm.trans hj)).symm
        have hr' : r.val = .lst [.str "refused", .int 0] := hr
        have hS4 := potAt_app hS3 more
        generalize S ++ more = S4 at hS4 ⊢
        clear hr hS3 hall hbad hT
        cases r
        all_goals
          rename_i y0
          obtain rfl : y0 = _ := hr'
          fail "wp"
          refine ⟨k, _, _, rfl, hS4, by simp, by simp, .inl rfl, fun o b c ho c0 c1 => ?_⟩
          replace ho : OddOk o := by
            refine (?_ : ∀ t ∈ _, OddOk t) o ho
            repeat' (first | refine List.forall_mem_cons.mpr ⟨?_, ?_⟩ | exact fnil)
            all_goals exact ⟨tx_lit _ rfl (by decide +kernel), by decide +kernel⟩
          have hS := potSt_at (b := b) (c := c) hS4.lt c0 c1
          generalize potSt S4 k b c = S at hS ⊢
          have hb2 : badI [.lst R, o, .lst r2] = some 0 := by rw [bad3, hR.bl, ho.no, ea]; rfl
          have hall2 : ∀ u ∈ ([.lst R, o, .lst r2] : List T), Tx 4 15005 u := List.forall_mem_cons.mpr ⟨hR.lst, List.forall_mem_cons.mpr ⟨(ho.tx.le (by decide) (by decide)), List.forall_mem_cons.mpr ⟨g2.lst, fnil⟩⟩⟩
          fail "wp"
          refine ⟨4, 15005, _, _, _, rfl, hall2, by decide, by decide, fun hb => (nomatch hb2.symm.trans hb), fun j hj r2' more2 hr2 => ?_⟩
          obtain rfl : j = 0 := by
            exact (Option.some.inj (hb2.symm.trans hj)).symm
          have z := q (S ++ more2) (potAt_app hS more2)
          cases r2'
          all_goals
            rename_i y
            obtain rfl : y = .lst [.str "refused", .int 0] := hr2
            fail "wp"
            refine ⟨t, 3, 3000, rfl, ht, by decide, ?_⟩
            fail "wp"
      | true =>
        rw [ea] at hbad
        replace hbad : badI [.lst R, .tup r1, .lst r2] = none := hbad
        fail "wp"
        refine ⟨4, 15005, _, _, _, rfl, hall, by decide, by decide, fun _ r more hr => ?_, fun j hj => (nomatch hbad.symm.trans hj)⟩
        have hr' : r.val = .lst [.str "made", .str D.shown, .int 3, .int (↑R.length + ↑r1.length + ↑r2.length : Int)] := hr.trans (by
          rw [show rp (.lst [rowL (.lst R), rowL (.tup r1), rowL (.lst r2)]) = D.shown from (rp_of D0).symm, show ((rowN (.lst R) + rowN (.tup r1) + rowN (.lst r2) : Nat) : Int) = (↑R.length + ↑r1.length + ↑r2.length : Int) by show ((R.length + r1.length + r2.length : Nat) : Int) = _; omega])
        have hS4 := potAt_app hS3 more
        generalize S ++ more = S4 at hS4 ⊢
        clear hr hS3 hall hbad hT
        cases r
        all_goals
          rename_i y0
          obtain rfl : y0 = _ := hr'
          fail "wp"
          refine ⟨k, _, _, rfl, hS4, by simp, by simp, .inl rfl, fun o b c ho c0 c1 => ?_⟩
          replace ho : OddOk o := by
            refine (?_ : ∀ t ∈ _, OddOk t) o ho
            repeat' (first | refine List.forall_mem_cons.mpr ⟨?_, ?_⟩ | exact fnil)
            all_goals exact ⟨tx_lit _ rfl (by decide +kernel), by decide +kernel⟩
          have hS := potSt_at (b := b) (c := c) hS4.lt c0 c1
          generalize potSt S4 k b c = S at hS ⊢
          have hb2 : badI [.lst R, o, .lst r2] = some 1 := by rw [bad3, hR.bl, ho.no, ea]; rfl
          have hall2 : ∀ u ∈ ([.lst R, o, .lst r2] : List T), Tx 4 15005 u := List.forall_mem_cons.mpr ⟨hR.lst, List.forall_mem_cons.mpr ⟨(ho.tx.le (by decide) (by decide)), List.forall_mem_cons.mpr ⟨g2.lst, fnil⟩⟩⟩
          fail "wp"
          refine ⟨4, 15005, _, _, _, rfl, hall2, by decide, by decide, fun hb => (nomatch hb2.symm.trans hb), fun j hj r2' more2 hr2 => ?_⟩
          obtain rfl : j = 1 := by
            exact (Option.some.inj (hb2.symm.trans hj)).symm
          have z := q (S ++ more2) (potAt_app hS more2)
          cases r2'
          all_goals
            rename_i y
            obtain rfl : y = .lst [.str "refused", .int 1] := hr2
            fail "wp"
            refine ⟨t, 3, 3000, rfl, ht, by decide, ?_⟩
            fail "wp"
    · have hl0 := h1.1
      fail "wp"
      refine ⟨k, _, rfl, hS2, by omega, by omega, fun i b c i0 i1 c0 c1 => ?_⟩
      have hS3 := potSt_at (b := b) (c := c) hS2.lt c0 c1
      generalize potSt S2 k b c = S at hS3 ⊢
      clear hS2
      have hR := mix_ok (i := i) h1 ht
      have l1 := cutT_len r1 none (some i)
      have l2 := cutT_len r1 (some i) none
      fail "wp"
      refine ⟨by omega, by rw [List.length_append, List.length_singleton]; omega, ?_⟩
      generalize cutT r1 none (some i) ++ t :: cutT r1 (some i) none = R at hR ⊢
      clear l1 l2 hl0
      have g0 := h0.ok
      have g1 := h1.ok
      have g2 := h2.ok
      have hT : Tx 5 45018 (.lst [.lst r0, .lst R, .lst r2]) := lst_w (m := 3) (List.forall_mem_cons.mpr ⟨g0.lst, List.forall_mem_cons.mpr ⟨hR.lst, List.forall_mem_cons.mpr ⟨g2.lst, fnil⟩⟩⟩) (by simp)
      obtain ⟨D, D0, D1, D2, D3⟩ := repr_tx hT (by decide) (by decide)
      rw [sizeLine_eq] at D3
      have hall : ∀ u ∈ ([.lst r0, .tup R, .lst r2] : List T), Tx 4 15005 u := List.forall_mem_cons.mpr ⟨g0.lst, List.forall_mem_cons.mpr ⟨hR.tup, List.forall_mem_cons.mpr ⟨g2.lst, fnil⟩⟩⟩
      have hbad : badI [.lst r0, .tup R, .lst r2] = if actB t = true then none else some 1 := by
        rw [bad3, g0.bl, hR.bt, g2.bl]
        cases actB t <;> rfl
      have hmade := eq_made D.shown (↑r0.length + ↑R.length + ↑r2.length : Int)
      have href := eq_ref
      fail "wp"
      refine ⟨t, 3, 3000, rfl, ht, by decide, ?_⟩
      cases ea : actB t with
      | false =>
        rw [ea] at hbad
        replace hbad : badI [.lst r0, .tup R, .lst r2] = some 1 := hbad
        fail "wp"
        refine ⟨4, 15005, _, _, _, rfl, hall, by decide, by decide, fun hb => (nomatch hbad.symm.trans hb), fun j hj r more hr => ?_⟩
        obtain rfl : j = 1 := by
          exact (Option.some.inj (hbad.symm.trans hj)).symm
        have hr' : r.val = .lst [.str "refused", .int 1] := hr
        have hS4 := potAt_app hS3 more
        generalize S ++ more = S4 at hS4 ⊢
        clear hr hS3 hall hbad hT
        cases r
        all_goals
          rename_i y0
          obtain rfl : y0 = _ := hr'
          fail "wp"
          refine ⟨k, _, _, rfl, hS4, by simp, by simp, .inl rfl, fun o b c ho c0 c1 => ?_⟩
          replace ho : OddOk o := by
            refine (?_ : ∀ t ∈ _, OddOk t) o ho
            repeat' (first | refine List.forall_mem_cons.mpr ⟨?_, ?_⟩ | exact fnil)
            all_goals exact ⟨tx_lit _ rfl (by decide +kernel), by decide +kernel⟩
          have hS := potSt_at (b := b) (c := c) hS4.lt c0 c1
          generalize potSt S4 k b c = S at hS ⊢
          have hb2 : badI [o, .lst r2, .lst R] = some 0 := by rw [bad3, ho.no]; rfl
          have hall2 : ∀ u ∈ ([o, .lst r2, .lst R] : List T), Tx 4 15005 u := List.forall_mem_cons.mpr ⟨(ho.tx.le (by decide) (by decide)), List.forall_mem_cons.mpr ⟨g2.lst, List.forall_mem_cons.mpr ⟨hR.lst, fnil⟩⟩⟩
          fail "wp"
          refine ⟨4, 15005, _, _, _, rfl, hall2, by decide, by decide, fun hb => (nomatch hb2.symm.trans hb), fun j hj r2' more2 hr2 => ?_⟩
          obtain rfl : j = 0 := by
            exact (Option.some.inj (hb2.symm.trans hj)).symm
          have z := q (S ++ more2) (potAt_app hS more2)
          cases r2'
          all_goals
            rename_i y
            obtain rfl : y = .lst [.str "refused", .int 0] := hr2
            fail "wp"
      | true =>
        rw [ea] at hbad
        replace hbad : badI [.lst r0, .tup R, .lst r2] = none := hbad
        fail "wp"
        refine ⟨4, 15005, _, _, _, rfl, hall, by decide, by decide, fun _ r more hr => ?_, fun j hj => (nomatch hbad.symm.trans hj)⟩
        have hr' : r.val = .lst [.str "made", .str D.shown, .int 3, .int (↑r0.length + ↑R.length + ↑r2.length : Int)] := hr.trans (by
          rw [show rp (.lst [rowL (.lst r0), rowL (.tup R), rowL (.lst r2)]) = D.shown from (rp_of D0).symm, show ((rowN (.lst r0) + rowN (.tup R) + rowN (.lst r2) : Nat) : Int) = (↑r0.length + ↑R.length + ↑r2.length : Int) by show ((r0.length + R.length + r2.length : Nat) : Int) = _; omega])
        have hS4 := potAt_app hS3 more
        generalize S ++ more = S4 at hS4 ⊢
        clear hr hS3 hall hbad hT
        cases r
        all_goals
          rename_i y0
          obtain rfl : y0 = _ := hr'
          fail "wp"
          refine ⟨k, _, _, rfl, hS4, by simp, by simp, .inl rfl, fun o b c ho c0 c1 => ?_⟩
          replace ho : OddOk o := by
            refine (?_ : ∀ t ∈ _, OddOk t) o ho
            repeat' (first | refine List.forall_mem_cons.mpr ⟨?_, ?_⟩ | exact fnil)
            all_goals exact ⟨tx_lit _ rfl (by decide +kernel), by decide +kernel⟩
          have hS := potSt_at (b := b) (c := c) hS4.lt c0 c1
          generalize potSt S4 k b c = S at hS ⊢
          have hb2 : badI [o, .lst r2, .lst R] = some 0 := by rw [bad3, ho.no]; rfl
          have hall2 : ∀ u ∈ ([o, .lst r2, .lst R] : List T), Tx 4 15005 u := List.forall_mem_cons.mpr ⟨(ho.tx.le (by decide) (by decide)), List.forall_mem_cons.mpr ⟨g2.lst, List.forall_mem_cons.mpr ⟨hR.lst, fnil⟩⟩⟩
          fail "wp"
          refine ⟨4, 15005, _, _, _, rfl, hall2, by decide, by decide, fun hb => (nomatch hb2.symm.trans hb), fun j hj r2' more2 hr2 => ?_⟩
          obtain rfl : j = 0 := by
            exact (Option.some.inj (hb2.symm.trans hj)).symm
          have z := q (S ++ more2) (potAt_app hS more2)
          cases r2'
          all_goals
            rename_i y
            obtain rfl : y = .lst [.str "refused", .int 0] := hr2
            fail "wp"
    · have hl0 := h2.1
      fail "wp"
      refine ⟨k, _, rfl, hS2, by omega, by omega, fun i b c i0 i1 c0 c1 => ?_⟩
      have hS3 := potSt_at (b := b) (c := c) hS2.lt c0 c1
      generalize potSt S2 k b c = S at hS3 ⊢
      clear hS2
      have hR := mix_ok (i := i) h2 ht
      have l1 := cutT_len r2 none (some i)
      have l2 := cutT_len r2 (some i) none
      fail "wp"
      refine ⟨by omega, by rw [List.length_append, List.length_singleton]; omega, ?_⟩
      generalize cutT r2 none (some i) ++ t :: cutT r2 (some i) none = R at hR ⊢
      clear l1 l2 hl0
      have g0 := h0.ok
      have g1 := h1.ok
      have g2 := h2.ok
      have hT : Tx 5 45018 (.lst [.lst r0, .lst r1, .lst R]) := lst_w (m := 3) (List.forall_mem_cons.mpr ⟨g0.lst, List.forall_mem_cons.mpr ⟨g1.lst, List.forall_mem_cons.mpr ⟨hR.lst, fnil⟩⟩⟩) (by simp)
      obtain ⟨D, D0, D1, D2, D3⟩ := repr_tx hT (by decide) (by decide)
      rw [sizeLine_eq] at D3
      have hall : ∀ u ∈ ([.lst r0, .tup r1, .lst R] : List T), Tx 4 15005 u := List.forall_mem_cons.mpr ⟨g0.lst, List.forall_mem_cons.mpr ⟨g1.tup, List.forall_mem_cons.mpr ⟨hR.lst, fnil⟩⟩⟩
      have hbad : badI [.lst r0, .tup r1, .lst R] = if actB t = true then none else some 2 := by
        rw [bad3, g0.bl, g1.bt, hR.bl]
        cases actB t <;> rfl
      have hmade := eq_made D.shown (↑r0.length + ↑r1.length + ↑R.length : Int)
      have href := eq_ref
      fail "wp"
      refine ⟨t, 3, 3000, rfl, ht, by decide, ?_⟩
      cases ea : actB t with
      | false =>
        rw [ea] at hbad
        replace hbad : badI [.lst r0, .tup r1, .lst R] = some 2 := hbad
        fail "wp"
        refine ⟨4, 15005, _, _, _, rfl, hall, by decide, by decide, fun hb => (nomatch hbad.symm.trans hb), fun j hj r more hr => ?_⟩
        obtain rfl : j = 2 := by
          exact (Option.some.inj (hbad.symm.trans hj)).symm
        have hr' : r.val = .lst [.str "refused", .int 2] := hr
        have hS4 := potAt_app hS3 more
        generalize S ++ more = S4 at hS4 ⊢
        clear hr hS3 hall hbad hT
        cases r
        all_goals
          rename_i y0
          obtain rfl : y0 = _ := hr'
          fail "wp"
          refine ⟨k, _, _, rfl, hS4, by simp, by simp, .inl rfl, fun o b c ho c0 c1 => ?_⟩
          replace ho : OddOk o := by
            refine (?_ : ∀ t ∈ _, OddOk t) o ho
            repeat' (first | refine List.forall_mem_cons.mpr ⟨?_, ?_⟩ | exact fnil)
            all_goals exact ⟨tx_lit _ rfl (by decide +kernel), by decide +kernel⟩
          have hS := potSt_at (b := b) (c := c) hS4.lt c0 c1
          generalize potSt S4 k b c = S at hS ⊢
          have hb2 : badI [o, .lst r0, .lst R] = some 0 := by rw [bad3, ho.no]; rfl
          have hall2 : ∀ u ∈ ([o, .lst r0, .lst R] : List T), Tx 4 15005 u := List.forall_mem_cons.mpr ⟨(ho.tx.le (by decide) (by decide)), List.forall_mem_cons.mpr ⟨g0.lst, List.forall_mem_cons.mpr ⟨hR.lst, fnil⟩⟩⟩
          fail "wp"
          refine ⟨4, 15005, _, _, _, rfl, hall2, by decide, by decide, fun hb => (nomatch hb2.symm.trans hb), fun j hj r2' more2 hr2 => ?_⟩
          obtain rfl : j = 0 := by
            exact (Option.some.inj (hb2.symm.trans hj)).symm
          have z := q (S ++ more2) (potAt_app hS more2)
          cases r2'
          all_goals
            rename_i y
            obtain rfl : y = .lst [.str "refused", .int 0] := hr2
            fail "wp"
      | true =>
        rw [ea] at hbad
        replace hbad : badI [.lst r0, .tup r1, .lst R] = none := hbad
        fail "wp"
        refine ⟨4, 15005, _, _, _, rfl, hall, by decide, by decide, fun _ r more hr => ?_, fun j hj => (nomatch hbad.symm.trans hj)⟩
        have hr' : r.val = .lst [.str "made", .str D.shown, .int 3, .int (↑r0.length + ↑r1.length + ↑R.length : Int)] := hr.trans (by
          rw [show rp (.lst [rowL (.lst r0), rowL (.tup r1), rowL (.lst R)]) = D.shown from (rp_of D0).symm, show ((rowN (.lst r0) + rowN (.tup r1) + rowN (.lst R) : Nat) : Int) = (↑r0.length + ↑r1.length + ↑R.length : Int) by show ((r0.length + r1.length + R.length : Nat) : Int) = _; omega])
        have hS4 := potAt_app hS3 more
        generalize S ++ more = S4 at hS4 ⊢
        clear hr hS3 hall hbad hT
        cases r
        all_goals
          rename_i y0
          obtain rfl : y0 = _ := hr'
          fail "wp"
          refine ⟨k, _, _, rfl, hS4, by simp, by simp, .inl rfl, fun o b c ho c0 c1 => ?_⟩
          replace ho : OddOk o := by
            refine (?_ : ∀ t ∈ _, OddOk t) o ho
            repeat' (first | refine List.forall_mem_cons.mpr ⟨?_, ?_⟩ | exact fnil)
            all_goals exact ⟨tx_lit _ rfl (by decide +kernel), by decide +kernel⟩
          have hS := potSt_at (b := b) (c := c) hS4.lt c0 c1
          generalize potSt S4 k b c = S at hS ⊢
          have hb2 : badI [o, .lst r0, .lst R] = some 0 := by rw [bad3, ho.no]; rfl
          have hall2 : ∀ u ∈ ([o, .lst r0, .lst R] : List T), Tx 4 15005 u := List.forall_mem_cons.mpr ⟨(ho.tx.le (by decide) (by decide)), List.forall_mem_cons.mpr ⟨g0.lst, List.forall_mem_cons.mpr ⟨hR.lst, fnil⟩⟩⟩
          fail "wp"
          refine ⟨4, 15005, _, _, _, rfl, hall2, by decide, by decide, fun hb => (nomatch hb2.symm.trans hb), fun j hj r2' more2 hr2 => ?_⟩
          obtain rfl : j = 0 := by
            exact (Option.some.inj (hb2.symm.trans hj)).symm
          have z := q (S ++ more2) (potAt_app hS more2)
          cases r2'
          all_goals
            rename_i y
            obtain rfl : y = .lst [.str "refused", .int 0] := hr2
            fail "wp"
end
end Fu
set_option Elab.async false
set_option linter.all false
set_option maxRecDepth 100000
set_option maxHeartbeats 4000000
namespace Fu
open PySem PySem.Spec PyProof.Rows L2 Hv
local macro_rules | `(tactic| fail "wp d") => `(tactic| dsimp only [dMk1, dMk2, dMk2r, dMk0, dXv, dIsV, dDisp, dTryC, clAs, clO, clNil, dRaise0, dIsiT, dIsXT, gReprQ, deref_ev, dMakeS, dProp, dRevT, dUp, diLT, diET, dTryAs, consO, dFor_eq, dLc_eq, dDc_eq, dLc2_eq, deref_non, deref_bl, deref_int, deref_str, deref_ty, deref_lst, deref_tup, deref_dct, deref_ins, deref_glob, deref_scr, deref_exc, deref_cell, truth_non, truth_bl, truth_int, truth_lst, truth_tup, truth_str, tagOf_non, tagOf_bl, tagOf_int, tagOf_str, tagOf_lst, tagOf_scr, tagOf_tup, tagOf_dct, tagOf_ins, toKey_int, toKey_str, isNon_non, isNon_bl, isNon_int, isNon_str, isNon_ty, isNon_lst, isNon_tup, isNon_dct, isNon_ins, isNon_glob, isNon_scr, isNon_exc, bodyS, startE, dSeq, dNext, dIfS, dRet, dRetO, dRetV, dRetN, dDrop, dBreak, dCont, dTest, dTru, dAnd, dOr, dNot, dAndV, dOrV, dNotV, dIfE, dChain, xC1, xC2, dOp, dC, dVar, xVar, takeV, om, omP, oV, xV, okSl, oE, daNil, daCons, drNil, drCons, dLst, dTup, dDct, vw, vws, look, dAsg, dgName, dgNil, dgCons, dgTup, dgSub, dSetO, dSetL, dPar, dPar3, dParOO, dParOF, dParFO, dYes, dNeg, dDGet, dDIn, dSl, dpNo, dpSome, dFld, dSFld, dCon, dCc, xFmt, fmtT, xFstr, jNil, jCons, joinT, seqT, xCallF, xCallO, xMeth, xMethO, Rt.val, Rt.isOw, dMake, dBox, dRaise1, dRaise2, dAppend, dExtend, dPopAt, dPop, dTmpAppend, dTmpPop, dDPut, dDPop1, xLk, xLkLc, lkM, lkOn, lkOff, lkOk, lkX, dIsi, xSort, sortP, dInO, dLenO, dEqO, dXf, dIsX, daKw, seeI, seeL, upto, uptoT, cellT, ansB, ansI, gI0, gIC, gSub', gFdiv, gMod, gPow, gLt, gLe, gGt, gGe, xAdd, addT, xMul, mulT, xEq, xIn, negB, inT, sign1_eq, gIs, gIsNot, xIx, ixT, ixC, gSlS, xSlL, slLT, gSlT, xF1, lenT, gAbs, gMax2, gMin2, int1T, gDivmod, bool1T, str1T, gAll, gAny, gSum, listT, tupleT, dictT, gRepr, gEqK, gAddL, wiped, wipeE, unw, unE, diL, diT, diS, diR1, diR2, diE, diK, diI, diV, xZ, zipO, diZK, diZV, zMapC, zMapN, zAppC, zAppN, zRepS, zRep0, zGet0, zGetS, zSet0, zSetS, zLenN, zLenC, zOMap, zONone, Nat.reduceAdd, Nat.reduceSub])
local macro_rules | `(tactic| fail "wp s") => `(tactic| simp only [gP_nil, gP_cons, is_NoneType_bool, is_NoneType_int, is_NoneType_list, is_NoneType_str, is_NoneType_tuple, is_bool_bool, is_bool_int, is_bool_list, is_bool_str, is_bool_tuple, is_dict_bool, is_dict_int, is_dict_list, is_dict_str, is_dict_tuple, is_int_bool, is_int_int, is_int_list, is_int_str, is_int_tuple, is_list_bool, is_list_int, is_list_list, is_list_str, is_list_tuple, is_str_bool, is_str_int, is_str_list, is_str_str, is_str_tuple, is_tuple_bool, is_tuple_int, is_tuple_list, is_tuple_str, is_tuple_tuple, ix_InvalidScript_HookError, ix_InvalidScript_StateError, cc_Boxes_MOST_VALUES, fl_Script, hd_InvalidScript_InvalidScript, xf_InvalidScript, ex_map, eqT_int, eqT_bl, eqT_str, inL_str, inL_strN, sign_inj, Nat.reduceAdd, Nat.reduceSub, Nat.reduceLeDiff, Nat.reduceLT, Nat.zero_lt_succ, Nat.succ_pos, if_true, if_false, Bool.false_eq_true, ite_true, ite_false, true_and, and_true, decide_eq_true_eq, decide_true, decide_false, exists_eq_left', exists_eq_left, T.str.injEq, T.int.injEq, T.bl.injEq, T.lst.injEq, T.tup.injEq, T.dct.injEq, T.cell.injEq, T.ins.injEq, exists_const, exists_and_left, Bool.not_true, Bool.not_false, eq_self, reduceIte, reduceCtorEq, Bool.not_eq_true', Bool.true_eq_false, and_false, false_and, exists_false, or_false, false_or, Option.some.injEq, List.getElem?_set_self, List.set_set, List.length_set, atI0, atI1, atI2, ixN0, ixN1, List.append_assoc, sizeLine_eq, Option.getD_some, List.map_cons, List.map_nil, List.cons_append, List.nil_append, List.append_nil, List.length_cons, List.length_nil, List.replicate, List.getElem?_cons_zero, List.getElem?_cons_succ, List.set_cons_zero, List.set_cons_succ, Nat.sub_self, *])
local macro_rules | `(tactic| fail "wp") => `(tactic| repeat (first | fail "wp d" | fail "wp s"))
local macro_rules | `(tactic| fail "hit") => `(tactic| (intro Q h; first | exact h | (fail "wp"; done) | (fail "wp"; first | exact h | exact ⟨by omega, h⟩ | exact ⟨⟨by omega, by omega⟩, h⟩)))

section
variable {P : Program} {w : World} {K : PySem.W.Frag} {mg : Str → Option Value} {base : Heap}
theorem Tx.deref {n w : Nat} {t : T} {S : Store} (h : Tx n w t) : Fu.deref S t = some t := by
  cases h.kd <;> rfl
def f_right : DS := (dSeq (dFor (diR1 (daCons (dC (.int 8)) daNil)) (dgName 1)
  (dSeq (dAsg (xCallF 1 S_act (daCons (xVar 0) daNil)) (dgName 2))
  (dSeq (dIfS (dTest (dOp gGt (oE (xCallF 2 S_draw (daCons (xVar 0) (daCons (dC (.int 4)) daNil)))) (oE (dC (.int 0)))))
  (dAsg (xCallF 2 S_spoilt (daCons (xVar 0) (daCons (xVar 2) daNil))) (dgName 2))
  dNext)
  (dSeq (dPar 3 4 (daCons (xC1 gReprQ (xV 2)) (daCons (xCallF 1 S_l_is_act (daCons (xVar 2) daNil)) daNil)))
  (dSeq (dIfS (dOr (dTest (dOp (xEq true) (oE (xC1 (xF1 bool1T) (oE (xCallF 1 S_is_act (daCons (xVar 2) daNil))))) (xV 4))) (dOr (dTest (dOp (xEq true) (oE (xC1 (xF1 bool1T) (oE (xCallF 1 S_is_act (daKw 0 1 [0] daNil (daCons (xVar 2) daNil)))))) (xV 4))) (dTest (dOp (xEq true) (oE (xC1 gReprQ (xV 2))) (xV 3)))))
  (dRet (dC (.bl false)))
  dNext)
  (dIfS (dNot (dTest (xCallF 2 S_rows_right (daCons (xVar 0) (daCons (xVar 2) daNil)))))
  (dRet (dC (.bl false)))
  dNext))))))
  (dRet (dC (.bl true))))

theorem ok_right (Φ : Facts P w K mg base) : Cal P w K mg base 17 "_law_right" P_right (spF K mg 1 (bodyS 5 f_right)) :=
  def_ok Φ.T_right sc_right fun fa cd A up s H Ek hr hG => by
    have tk := takes_of (X := cxOf (L2.CX P w) P w K mg base N_right "_law_right" (defScope s_right) fa cd A up s H Ek) (E := Ek) rfl rfl rfl rfl
    refine ⟨_, (pss_cons (ps_for (passes_of rfl) rfl (pi_range1 (by rfl) Φ.B.range (pa_cons pe_int pa_nil)) (pg_name (i := 1) sc_right.nd rfl (by first | exact Or.inl rfl | exact Or.inr rfl))
        (pss_cons (ps_set (i := 2) sc_right.nd rfl (by first | exact Or.inl rfl | exact Or.inr rfl) (pe_fz (pe_cs (c_act Φ) (hr.mono (by decide)) hG (by rfl) (passAt tk) (pa_cons (pe_fz (pv 0)) pa_nil))))
      (pss_cons (ps_if (pt_cmpR op_gt (pe_fz (pe_cs (c_draw Φ) (hr.mono (by decide)) hG (by rfl) (passAt tk) (pa_cons (pe_fz (pv 0)) (pa_cons pe_int pa_nil)))) pe_int (nomark _))
        (pss_one (ps_set (i := 2) sc_right.nd rfl (by first | exact Or.inl rfl | exact Or.inr rfl) (pe_fz (pe_cs (c_spoilt Φ) (hr.mono (by decide)) hG (by rfl) (passAt tk) (pa_cons (pe_fz (pv 0)) (pa_cons (pe_fz (pv 2)) pa_nil))))))
        pss_nil)
      (pss_cons (ps_par (i := 3) (j := 4) rfl sc_right.nd rfl rfl (by decide) rfl rfl (pa_cons (pe_callB (reprQ (K := K) rfl Φ.sm (units65 hr) hG) (by rfl) Φ.B.repr (by decide +kernel) (pa_cons (pv 2) pa_nil)) (pa_cons (pe_fz (pe_cs (c_l_is_act Φ) (hr.mono (by decide)) hG (by rfl) (passAt tk) (pa_cons (pe_fz (pv 2)) pa_nil))) pa_nil)) (by rfl))
      (pss_cons (ps_if (PW.pt (pw_or (pt_cmpR (neO (K := K) rfl (units65 hr)) (pe_callTy call_bool1 (by rfl) Φ.B.bool (by decide +kernel) (pa_cons (pe_fz (pe_cs (c_is_act Φ) (hr.mono (by decide)) hG (by rfl) (passAt tk) (pa_cons (pe_fz (pv 2)) pa_nil))) pa_nil)) (pv 4) (nomark _)) (pw_or (pt_cmpR (neO (K := K) rfl (units65 hr)) (pe_callTy call_bool1 (by rfl) Φ.B.bool (by decide +kernel) (pa_cons (pe_fz (pe_csK0 (K_is_act_0_value Φ) (hr.mono (by decide)) hG (by rfl) (passAt tk) (pk_cons (pe_fz (pv 2)) pk_nil))) pa_nil)) (pv 4) (nomark _)) (pw_or1 (pt_cmpR (neO (K := K) rfl (units65 hr)) (pe_callB (reprQ (K := K) rfl Φ.sm (units65 hr) hG) (by rfl) Φ.B.repr (by decide +kernel) (pa_cons (pv 2) pa_nil)) (pv 3) (nomark _))))))
        (pss_one (ps_ret pe_bl))
        pss_nil)
      (pss_one (ps_if (pt_not (pt_val (pe_fz (pe_cs (c_rows_right Φ) (hr.mono (by decide)) hG (by rfl) (passAt tk) (pa_cons (pe_fz (pv 0)) (pa_cons (pe_fz (pv 2)) pa_nil))))))
        (pss_one (ps_ret pe_bl))
        pss_nil)))))))
      (pss_one (ps_ret pe_bl))), ?_⟩
    unfold f_right
    exact (snd_seq (snd_for (snd_iR1 (snd_cons snd_int snd_nil)) snd_gName
        (snd_seq (snd_asg (snd_xCallF (snd_cons snd_xVar snd_nil)) snd_gName)
      (snd_seq (snd_ifS (snd_test (snd_op os_gt (snd_oE (snd_xCallF (snd_cons snd_xVar (snd_cons snd_int snd_nil)))) (snd_oE snd_int)))
        (snd_asg (snd_xCallF (snd_cons snd_xVar (snd_cons snd_xVar snd_nil))) snd_gName)
        snd_next)
      (snd_seq (snd_par (snd_cons (snd_xC1 cs_reprQ snd_xV) (snd_cons (snd_xCallF (snd_cons snd_xVar snd_nil)) snd_nil)))
      (snd_seq (snd_ifS (snd_or (snd_test (snd_op os_xNe (snd_oE (snd_xC1 cs_xBool1 (snd_oE (snd_xCallF (snd_cons snd_xVar snd_nil))))) snd_xV)) (snd_or (snd_test (snd_op os_xNe (snd_oE (snd_xC1 cs_xBool1 (snd_oE (snd_xCallF (snd_kw snd_nil (snd_cons snd_xVar snd_nil)))))) snd_xV)) (snd_test (snd_op os_xNe (snd_oE (snd_xC1 cs_reprQ snd_xV)) snd_xV))))
        (snd_ret snd_bl)
        snd_next)
      (snd_ifS (snd_not (snd_tB (snd_xCallF (snd_cons snd_xVar (snd_cons snd_xVar snd_nil)))))
        (snd_ret snd_bl)
        snd_next))))))
      (snd_ret snd_bl))

def S_right : SpecT := fun ts st P X => ∃ (k : Nat), ts = [.cell k] ∧ PotAt st k ∧ ∀ st', P (.fr (.bl true)) st'
theorem c_right (Φ : Facts P w K mg base) : Cal P w K mg base 17 "_law_right" P_right (spF K mg 1 S_right) := (ok_right Φ).impF <|  by
  rintro ts st P X ⟨k, rfl, hp, q⟩
  unfold f_right
  fail "wp"
  refine ⟨⟨by decide, by decide⟩, ?_⟩
  refine dForB_at (fun i ev => ∃ S s1 s2 s3 s4, PotAt S k ∧ ev = ⟨[.fr (.cell k), s1, s2, s3, s4], S⟩) ⟨st, _, _, _, _, hp, rfl⟩ ?_ ?_
  · rintro i t ev hi ⟨S, s1, s2, s3, s4, hS, rfl⟩
    have tail : ∀ (t : T) (S : Store) (s1 s3 s4 : Sl), PotAt S k → Tx 3 3000 t → True := fun _ _ _ _ _ _ _ => trivial
    fail "wp"
    refine ⟨k, rfl, hS, fun z r b c hz c0 c1 => ?_⟩
    have hS2 := potSt_at (b := b) (c := c) hS.lt c0 c1
    generalize potSt S k b c = S2 at hS2 ⊢
    clear hS
    fail "wp"
    refine ⟨k, _, rfl, hS2, by decide, by decide, fun d b c d0 d1 c0 c1 => ?_⟩
    have hS3 := potSt_at (b := b) (c := c) hS2.lt c0 c1
    generalize potSt S2 k b c = S3 at hS3 ⊢
    clear hS2
    fail "wp"
    split
    · refine ⟨k, z, r, rfl, hS3, hz, fun t b c ht c0 c1 => ?_⟩
      have hS4 := potSt_at (b := b) (c := c) hS3.lt c0 c1
      generalize potSt S3 k b c = S4 at hS4 ⊢
      clear hS3
      obtain ⟨D, D0, D1, D2, D3⟩ := repr_tx ht (by decide) (by decide)
      rw [sizeLine_eq] at D3
      have hdr : ∀ S : Store, deref S t = some t := fun S => ht.deref
      have hbb : (actB t == actB t) = true := by simp
      fail "wp"
      refine ⟨t, 3, 3000, rfl, ht, by decide, ?_⟩
      fail "wp"
      refine ⟨t, 3, 3000, rfl, ht, by decide, ?_⟩
      fail "wp"
      refine ⟨t, 3, 3000, rfl, ht, by decide, ?_⟩
      fail "wp"
      refine ⟨k, t, rfl, hS4, ht, fun S5 hS5 => ?_⟩
      fail "wp"
      first | exact ⟨S5, _, _, _, _, hS5, rfl⟩ | exact ⟨S5, hS5, _, _, _, _, rfl⟩ | exact ⟨_, _, _, _, S5, hS5, rfl⟩ | exact ⟨S5, _, _, _, _, rfl, hS5⟩
    · have ht : Tx 3 3000 (.tup (.str z :: r)) := hz.t.le (by decide) (by decide)
      generalize T.tup (.str z :: r) = t at ht ⊢
      obtain ⟨D, D0, D1, D2, D3⟩ := repr_tx ht (by decide) (by decide)
      rw [sizeLine_eq] at D3
      have hdr : ∀ S : Store, deref S t = some t := fun S => ht.deref
      have hbb : (actB t == actB t) = true := by simp
      fail "wp"
      refine ⟨t, 3, 3000, rfl, ht, by decide, ?_⟩
      fail "wp"
      refine ⟨t, 3, 3000, rfl, ht, by decide, ?_⟩
      fail "wp"
      refine ⟨t, 3, 3000, rfl, ht, by decide, ?_⟩
      fail "wp"
      refine ⟨k, t, rfl, hS3, ht, fun S5 hS5 => ?_⟩
      fail "wp"
      first | exact ⟨S5, _, _, _, _, hS5, rfl⟩ | exact ⟨S5, hS5, _, _, _, _, rfl⟩ | exact ⟨_, _, _, _, S5, hS5, rfl⟩ | exact ⟨S5, _, _, _, _, rfl, hS5⟩
  · rintro ev ⟨S, s1, s2, s3, s4, hS, rfl⟩
    fail "wp"
def f_law : DS := (dRet (xC1 gAll (oE (dLc (diR1 (daCons (xC2 gMax2 (oE (dC (.int 1))) (oE (xC2 gMin2 (oE (dC (.int 3))) (oE (xC1 (xF1 lenT) (xV 0)))))) daNil)) (dgName 1) dYes (xCallF 1 S_right (daCons (dBox (xCallO 2 S_pot (daCons (xVar 0) (daCons (xVar 1) daNil)))) daNil)) [1]))))

theorem ok_law (Φ : Facts P w K mg base) : Cal P w K mg base 19 "law" P_law (spF K mg 1 (bodyS 2 f_law)) :=
  def_ok Φ.T_law sc_law fun fa cd A up s H Ek hr hG => by
    have tk := takes_of (X := cxOf (L2.CX P w) P w K mg base N_law "law" (defScope s_law) fa cd A up s H Ek) (E := Ek) rfl rfl rfl rfl
    refine ⟨_, (pss_one (ps_ret (pe_callB (allC (K := K) rfl rfl) (by rfl) Φ.B.all (by decide +kernel) (pa_cons (pe_fz (pe_lc (own := [("_law_k", 1)]) (g := gName 1) (tt := tYes) rfl sc_law.nd (pi_range1 (by rfl) Φ.B.range (pa_cons (pe_callB (call_max2 rfl) (by rfl) Φ.B.max (by decide +kernel) (pa_cons pe_int (pa_cons (pe_callB (call_min2 rfl) (by rfl) Φ.B.min (by decide +kernel) (pa_cons pe_int (pa_cons (pe_callB (lenQc (K := K) rfl) (by rfl) Φ.B.len (by decide +kernel) (pa_cons (pv 0) pa_nil)) pa_nil))) pa_nil))) pa_nil)) (blkOk_by (N := N_law) (sc := defScope s_law) (by decide +kernel)) (fun _ _ _ _ _ => (pg_name (i := 1) sc_law.nd rfl (by first | exact Or.inl rfl | exact Or.inr rfl))) (fun _ _ _ _ _ => pts_nil) (fun _ _ _ _ _ => (pe_fz (pe_cs (c_right Φ) (hr.mono (by decide)) hG (by rfl) (passAt takes_none5) (pa_cons (pe_cs (c_pot Φ) (hr.mono (by decide)) hG (by rfl) (passAt takes_none5) (pa_cons (pe_fz (pv 0)) (pa_cons (pe_fz (pv 1)) pa_nil))) pa_nil)))))) pa_nil)))), ?_⟩
    unfold f_law
    exact (snd_ret (snd_xC1 cs_all (snd_oE (snd_fz (snd_lc (snd_iR1 (snd_cons (snd_xC2 cs_max2 (snd_oE snd_int) (snd_oE (snd_xC2 cs_min2 (snd_oE snd_int) (snd_oE (snd_xC1 cs_xLen snd_xV))))) snd_nil)) (snd_wName (by decide)) snd_yes (snd_xCallF (snd_cons (snd_box (snd_xCallO (snd_cons snd_xVar (snd_cons snd_xVar snd_nil)))) snd_nil)))))))

def S_law : SpecT := fun ts st P X => ∃ ns : List Int, ts = [.scr ns] ∧ ns.length ≤ 63 ∧ ∀ st', P (.fr (.bl true)) st'
theorem c_law (Φ : Facts P w K mg base) : Cal P w K mg base 19 "law" P_law (spF K mg 1 S_law) := (ok_law Φ).impF <|  by
  rintro ts st P X ⟨ns, rfl, hl, q⟩
  unfold f_law
  fail "wp"
  have hm : 1 ≤ maxI 1 (minI 3 (ns.length : Int)) ∧ maxI 1 (minI 3 (ns.length : Int)) ≤ 3 := by
    unfold maxI minI
    split <;> split at * <;> omega
  generalize maxI 1 (minI 3 (ns.length : Int)) = m at hm
  refine ⟨⟨by omega, by omega⟩, ?_⟩
  refine dLcB_at (fun i acc ev => (∃ st, ev = ⟨[.fr (.scr ns), .no], st⟩) ∧ acc = (List.range i).map fun _ => .bl true) ⟨⟨_, rfl⟩, rfl⟩ ?_ ?_
  · rintro i t acc ev hi ⟨⟨st, rfl⟩, rfl⟩
    obtain ⟨h1, rfl⟩ := rangeT_get hi
    fail "wp"
    refine ⟨ns, _, rfl, by omega, by omega, fun b c c0 c1 => ?_⟩
    fail "wp"
    refine ⟨_, rfl, ⟨b, c, by simp, c0, c1⟩, fun st' => ?_⟩
    fail "wp d"
    refine ⟨by rw [List.length_map, List.length_range]; exact Nat.lt_of_lt_of_le (Nat.lt_of_lt_of_le h1 (show m.toNat ≤ 3 by omega)) (by decide), ⟨_, rfl⟩, ?_⟩
    rw [List.range_succ, List.map_append]
    rfl
  · rintro acc ev ⟨⟨st, rfl⟩, rfl⟩
    fail "wp"
    refine ⟨_, toBs_map (List.range _) (fun _ => true) rfl, ?_⟩
    rw [show ((List.range (rangeT 0 m.toNat).length).map fun _ => true).all id = true from List.all_eq_true.mpr fun x hx => by
      obtain ⟨_, _, rfl⟩ := List.mem_map.mp hx
      rfl]
    exact q _
end
end Fu
set_option Elab.async false
set_option linter.all false
set_option maxRecDepth 100000
set_option maxHeartbeats 4000000
namespace Fu
open PySem PySem.Spec PyProof.Rows L2 Hv
theorem facts {P : Program} {w : World} {K : PySem.W.Frag} {h : Heap} {mg : Str → Option Value} {base : Heap} (X : K.In h) (G : h.Ns mainGlobals mg) (c : SaysB ck fnA K) (cp : obsP psA K = valP psA) : Facts P w K mg base := by
  have hck : (allB K && ((faL.all fun f => f.ok K) && (ctB K "PLAIN_ACTS" ["look", "inner", "swallow", "answer", "skip", "fail"] && (isB K tIs && (smB K && (ixB K tIx && (ccB K tCc && (flB K tFl && (prB K "Script" "cost" && (plB K "Script" && (hdB K "InvalidScript" tHd_InvalidScript && classB K "InvalidScript" [.type "ValueError", .type "Exception", .type "BaseException", .type "object"] "ValueError.__new__" ["position"]))))))))))) = true := c.two.1
  obtain ⟨q_all, hck⟩ := band hck
  obtain ⟨q_fa, hck⟩ := band hck
  obtain ⟨q_ct_PLAIN_ACTS, hck⟩ := band hck
  obtain ⟨q_is, hck⟩ := band hck
  obtain ⟨q_sm, hck⟩ := band hck
  obtain ⟨q_ix, hck⟩ := band hck
  obtain ⟨q_cc, hck⟩ := band hck
  obtain ⟨q_fl, hck⟩ := band hck
  obtain ⟨q_pr_Script_cost, hck⟩ := band hck
  obtain ⟨q_pl_Script, hck⟩ := band hck
  obtain ⟨q_hd_InvalidScript, hck⟩ := band hck
  have q_x_InvalidScript := hck
  have fct : ∀ (i : Nat) (f : He.Fa), faL[i]? = some f → f.ok K = true := fun i f e => List.all_eq_true.mp q_fa f (List.mem_of_getElem? e)
  have p_Script := plB_ok X G q_pl_Script
  obtain ⟨d_is_integer, F_is_integer⟩ := c.def_ 0 (d := dTop "is_integer" 15) rfl
  have b_is_integer : Binds K d_is_integer P_is_integer [] := FunD.bindsN F_is_integer fun _ _ _ _ _ _ us hl => match us, hl with | [_], _ => rfl
  obtain ⟨d_is_name, F_is_name⟩ := c.def_ 1 (d := dTop "is_name" 17) rfl
  have b_is_name : Binds K d_is_name P_is_name [] := FunD.bindsN F_is_name fun _ _ _ _ _ _ us hl => match us, hl with | [_], _ => rfl
  obtain ⟨d_is_list, F_is_list⟩ := c.def_ 2 (d := dTop "is_list" 19) rfl
  have b_is_list : Binds K d_is_list P_is_list [] := FunD.bindsN F_is_list fun _ _ _ _ _ _ us hl => match us, hl with | [_], _ => rfl
  obtain ⟨d_pot, F_pot⟩ := c.def_ 3 (d := dTop "_law_pot" 29) rfl
  have b_pot : Binds K d_pot P_pot [] := FunD.bindsN F_pot fun _ _ _ _ _ _ us hl => match us, hl with | [_, _], _ => rfl
  obtain ⟨d_draw, F_draw⟩ := c.def_ 4 (d := dTop "_law_draw" 30) rfl
  have b_draw : Binds K d_draw P_draw [] := FunD.bindsN F_draw fun _ _ _ _ _ _ us hl => match us, hl with | [_, _], _ => rfl
  obtain ⟨d_is_label, F_is_label⟩ := c.def_ 5 (d := dTop "_law_is_label" 37) rfl
  have b_is_label : Binds K d_is_label P_is_label [] := FunD.bindsN F_is_label fun _ _ _ _ _ _ us hl => match us, hl with | [_], _ => rfl
  obtain ⟨d_is_count, F_is_count⟩ := c.def_ 6 (d := dTop "is_count" 16) rfl
  have b_is_count : Binds K d_is_count P_is_count [] := FunD.bindsN F_is_count fun _ _ _ _ _ _ us hl => match us, hl with | [_], _ => rfl
  obtain ⟨d_pick, F_pick⟩ := c.def_ 7 (d := dTop "_law_pick" 31) rfl
  have b_pick : Binds K d_pick P_pick [] := FunD.bindsN F_pick fun _ _ _ _ _ _ us hl => match us, hl with | [_, _], _ => rfl
  obtain ⟨d_l_is_act, F_l_is_act⟩ := c.def_ 8 (d := dTop "_law_is_act" 38) rfl
  have b_l_is_act : Binds K d_l_is_act P_l_is_act [] := FunD.bindsN F_l_is_act fun _ _ _ _ _ _ us hl => match us, hl with | [_], _ => rfl
  obtain ⟨d_is_below, F_is_below⟩ := c.def_ 9 (d := dTop "is_below" 18) rfl
  have b_is_below : Binds K d_is_below P_is_below [] := FunD.bindsN F_is_below fun _ _ _ _ _ _ us hl => match us, hl with | [_, _], _ => rfl
  obtain ⟨d_label, F_label⟩ := c.def_ 10 (d := dTop "_law_label" 32) rfl
  have b_label : Binds K d_label P_label [] := FunD.bindsN F_label fun _ _ _ _ _ _ us hl => match us, hl with | [_], _ => rfl
  obtain ⟨d_odd_digit, F_odd_digit⟩ := c.def_ 11 (d := dTop "_law_odd_digit" 34) rfl
  have b_odd_digit : Binds K d_odd_digit P_odd_digit [] := FunD.bindsN F_odd_digit fun _ _ _ _ _ _ us hl => match us, hl with | [_], _ => rfl
  obtain ⟨d_is_act, F_is_act⟩ := c.def_ 12 (d := dTop "is_act" 26) rfl
  have b_is_act : Binds K d_is_act P_is_act [] := FunD.bindsN F_is_act fun _ _ _ _ _ _ us hl => match us, hl with | [_], _ => rfl
  obtain ⟨d_odd_label, F_odd_label⟩ := c.def_ 13 (d := dTop "_law_odd_label" 33) rfl
  have b_odd_label : Binds K d_odd_label P_odd_label [] := FunD.bindsN F_odd_label fun _ _ _ _ _ _ us hl => match us, hl with | [_], _ => rfl
  obtain ⟨d_act, F_act⟩ := c.def_ 14 (d := dTop "_law_act" 35) rfl
  have b_act : Binds K d_act P_act [] := FunD.bindsN F_act fun _ _ _ _ _ _ us hl => match us, hl with | [_], _ => rfl
  obtain ⟨d_spoilt, F_spoilt⟩ := c.def_ 15 (d := dTop "_law_spoilt" 36) rfl
  have b_spoilt : Binds K d_spoilt P_spoilt [] := FunD.bindsN F_spoilt fun _ _ _ _ _ _ us hl => match us, hl with | [_, _], _ => rfl
  obtain ⟨d_told, F_told⟩ := c.def_ 16 (d := dTop "_law_told" 39) rfl
  have b_told : Binds K d_told P_told [] := FunD.bindsN F_told fun _ _ _ _ _ _ us hl => match us, hl with | [_, _, _], _ => rfl
  obtain ⟨d_rows_right, F_rows_right⟩ := c.def_ 17 (d := dTop "_law_rows_right" 40) rfl
  have b_rows_right : Binds K d_rows_right P_rows_right [] := FunD.bindsN F_rows_right fun _ _ _ _ _ _ us hl => match us, hl with | [_, _], _ => rfl
  obtain ⟨d_right, F_right⟩ := c.def_ 18 (d := dTop "_law_right" 41) rfl
  have b_right : Binds K d_right P_right [] := FunD.bindsN F_right fun _ _ _ _ _ _ us hl => match us, hl with | [_], _ => rfl
  obtain ⟨d_law, F_law⟩ := c.def_ 19 (d := dTop "law" 42) rfl
  have b_law : Binds K d_law P_law [] := FunD.bindsN F_law fun _ _ _ _ _ _ us hl => match us, hl with | [_], _ => rfl
  obtain ⟨d_Script_cost, F_Script_cost⟩ := saysP cp 0 (p := (("Script", "cost"), ⟨("", none), "cost", "Script.cost", defArgs (inClass (top 27) 2), defBody (inClass (top 27) 2), defScope (inClass (top 27) 2), [], []⟩)) rfl
  have b_Script_cost : Binds K d_Script_cost P_Script_cost [] := FunD.bindsN F_Script_cost fun _ _ _ _ _ _ us hl => match us, hl with | [_], _ => rfl
  obtain ⟨d_Script_rows, F_Script_rows⟩ := c.def_ 20 (d := dIn "Script" "rows" "Script.rows" 27 1) rfl
  have b_Script_rows : Binds K d_Script_rows P_Script_rows [] := FunD.bindsN F_Script_rows fun _ _ _ _ _ _ us hl => match us, hl with | [_], _ => rfl
  obtain ⟨d_Script_len, F_Script_len⟩ := c.def_ 21 (d := dIn "Script" "__len__" "Script.__len__" 27 3) rfl
  have b_Script_len : Binds K d_Script_len P_Script_len [] := FunD.bindsN F_Script_len fun _ _ _ _ _ _ us hl => match us, hl with | [_], _ => rfl
  obtain ⟨d_Script_init, F_Script_init⟩ := c.def_ 22 (d := dIn "Script" "__init__" "Script.__init__" 27 0) rfl
  have X_InvalidScript := classB_ok X G q_all q_x_InvalidScript
  obtain ⟨e_InvalidScript, E_InvalidScript⟩ := c.def_ 23 (d := dIn "InvalidScript" "__init__" "InvalidScript.__init__" 5 0) rfl
  have E_InvalidScript := fun_ofD (st := inClass (top 5) 0) E_InvalidScript
  have x_InvalidScript : X1 P w K mg base "InvalidScript" _ "position" := x1_of X_InvalidScript under_V E_InvalidScript ⟨rfl, rfl, rfl, by decide +kernel, rfl, by decide +kernel, by decide +kernel⟩ rfl rfl rfl (E_InvalidScript.binds fun _ _ _ _ _ _ us hl => match us, hl with | [_, _], _ => rfl) (Fun.kb E_InvalidScript 2 [] (fun us ws => us ++ ws) kb_app fun _ _ _ _ _ _ us ws h1 h2 => match us, ws, h1, h2 with | [_, _], [], _, _ => rfl) (Fun.kb E_InvalidScript 1 ["position"] (fun us ws => us ++ ws) kb_app fun _ _ _ _ _ _ us ws h1 h2 => match us, ws, h1, h2 with | [_], [_], _, _ => rfl)
  exact {
    B := ⟨He.free_ok X G (fct 0 (.free "abs") rfl), He.free_ok X G (fct 1 (.free "all") rfl), He.free_ok X G (fct 2 (.free "bool") rfl), He.free_ok X G (fct 3 (.free "divmod") rfl), He.free_ok X G (fct 4 (.free "enumerate") rfl), He.free_ok X G (fct 5 (.free "int") rfl), He.free_ok X G (fct 6 (.free "isinstance") rfl), He.free_ok X G (fct 7 (.free "len") rfl), He.free_ok X G (fct 8 (.free "list") rfl), He.free_ok X G (fct 9 (.free "max") rfl), He.free_ok X G (fct 10 (.free "min") rfl), He.free_ok X G (fct 11 (.free "range") rfl), He.free_ok X G (fct 12 (.free "repr") rfl), He.free_ok X G (fct 13 (.free "str") rfl), He.free_ok X G (fct 14 (.free "sum") rfl), He.free_ok X G (fct 15 (.free "tuple") rfl)⟩,
    T_is_integer := top_of X G (fct 16 (.glo "is_integer") rfl) F_is_integer b_is_integer,
    T_is_name := top_of X G (fct 17 (.glo "is_name") rfl) F_is_name b_is_name,
    T_is_list := top_of X G (fct 18 (.glo "is_list") rfl) F_is_list b_is_list,
    M_Script_rows := p_Script.met (fct 42 (.meth "Script" "rows") rfl) F_Script_rows b_Script_rows,
    M_Script_cost := p_Script.prop q_pr_Script_cost F_Script_cost b_Script_cost,
    M_Script_len := p_Script.met (fct 43 (.meth "Script" "__len__") rfl) F_Script_len b_Script_len,
    T_pot := top_of X G (fct 19 (.glo "_law_pot") rfl) F_pot b_pot,
    T_draw := top_of X G (fct 20 (.glo "_law_draw") rfl) F_draw b_draw,
    T_is_label := top_of X G (fct 21 (.glo "_law_is_label") rfl) F_is_label b_is_label,
    T_is_count := top_of X G (fct 22 (.glo "is_count") rfl) F_is_count b_is_count,
    T_pick := top_of X G (fct 23 (.glo "_law_pick") rfl) F_pick b_pick,
    T_l_is_act := top_of X G (fct 24 (.glo "_law_is_act") rfl) F_l_is_act b_l_is_act,
    T_is_below := top_of X G (fct 25 (.glo "is_below") rfl) F_is_below b_is_below,
    T_label := top_of X G (fct 26 (.glo "_law_label") rfl) F_label b_label,
    T_odd_digit := top_of X G (fct 27 (.glo "_law_odd_digit") rfl) F_odd_digit b_odd_digit,
    T_is_act := top_of X G (fct 28 (.glo "is_act") rfl) F_is_act b_is_act,
    T_odd_label := top_of X G (fct 29 (.glo "_law_odd_label") rfl) F_odd_label b_odd_label,
    T_act := top_of X G (fct 30 (.glo "_law_act") rfl) F_act b_act,
    M_Script_init := ⟨p_Script.star (fct 44 (.meth "Script" "__init__") rfl) F_Script_init, fun _ _ _ _ _ _ _ us => by cases us <;> rfl⟩,
    T_spoilt := top_of X G (fct 31 (.glo "_law_spoilt") rfl) F_spoilt b_spoilt,
    T_told := top_of X G (fct 32 (.glo "_law_told") rfl) F_told b_told,
    T_rows_right := top_of X G (fct 33 (.glo "_law_rows_right") rfl) F_rows_right b_rows_right,
    T_right := top_of X G (fct 34 (.glo "_law_right") rfl) F_right b_right,
    T_law := top_of X G (fct 35 (.glo "law") rfl) F_law b_law,
    x_InvalidScript := ⟨_, x_InvalidScript⟩,
    g_Boxes := ⟨_, He.glo_ok X G (fct 36 (.glo "Boxes") rfl)⟩,
    g_HookError := ⟨_, He.glo_ok X G (fct 37 (.glo "HookError") rfl)⟩,
    g_StateError := ⟨_, He.glo_ok X G (fct 38 (.glo "StateError") rfl)⟩,
    k_LETTERS := He.str_ok X G (fct 39 (.str "LETTERS" "abcdefghijklmnopqrstuvwxyz") rfl),
    k_LETTERS_AND_DIGITS := He.str_ok X G (fct 40 (.str "LETTERS_AND_DIGITS" "abcdefghijklmnopqrstuvwxyz0123456789") rfl),
    k_LONGEST_NAME := He.int_ok X G (fct 41 (.int "LONGEST_NAME" (8)) rfl),
    kt_PLAIN_ACTS := ctB_ok X G q_ct_PLAIN_ACTS,
    is := isB_ok X G q_is,
    sm := smB_ok q_sm,
    ix := ixB_ok X G q_ix (List.forall_mem_cons.mpr ⟨X_InvalidScript.xc, List.forall_mem_cons.mpr ⟨X_InvalidScript.xc, fun p hp => nomatch hp⟩⟩),
    cc := ccB_ok X G q_cc,
    fl := flB_ok X G q_fl,
    mk_Script := p_Script.mkf q_all,
    mc_Script := p_Script.mkc,
    hd_InvalidScript := hdB_ok X G q_hd_InvalidScript,
    xf := xf_of (List.forall_mem_cons.mpr ⟨⟨_, X_InvalidScript.gC, X_InvalidScript.xf, X_InvalidScript.nof⟩, fun p hp => nomatch hp⟩) }
theorem all {P : Program} {w : World} {K : PySem.W.Frag} {h : Heap} {mg : Str → Option Value} (X : K.In h) (G : h.Ns mainGlobals mg) (c : SaysB ck fnA K) (cp : obsP psA K = valP psA) (base : Heap) : Cal P w K mg base 19 "law" P_law (spF K mg 1 S_law) := c_law (facts X G c cp)
theorem fin_law {K : PySem.W.Frag} {mg : Str → Option Value} {H : Hp} {a : Addr} {ns : List Int} (hl : ns.length ≤ 63) (hS : SqL K H a (ns.map V.int)) : spF K mg 1 S_law [.ref a] H (fun v _ => v = .bl true) fun _ _ _ => False :=
  ⟨[], H, [.scr ns], [], fun r _ => r = .fr (.bl true), fun _ _ => False, rfl, ⟨Same.refl _, List.nodup_nil, rfl, fun k c a e => by simp at e⟩, .cons (.scr hS) .nil, ⟨ns, rfl, hl, fun _ => rfl⟩,
    fun r st' as' G' v H' e _ _ q => by
      subst e
      cases (show TV K mg as' G' (.bl true) v from q)
      rfl, fun _ _ _ _ _ _ _ q _ _ _ => q.elim⟩
end Fu
open PySem PySem.W PySem.Calls PyProof.Rows
theorem PySem.Challenge.cw_hookvows_k30_what_is_an_act_holds : PySem.Challenge.rw_hookvows_k30_what_is_an_act.Holds := by
  w_on; o_law
  refine HandSHeadRun.head_any (r := OpenLaw.row PySem.Challenge.rw_hookvows_k30_what_is_an_act) (q := view (OpenLaw.row PySem.Challenge.rw_hookvows_k30_what_is_an_act).prog [42]) (H := Fu.hk) (ob := Fu.ob) (M := 20000) (loose := Fu.loose) (d := HandSHeadRun.topDef (OpenLaw.row PySem.Challenge.rw_hookvows_k30_what_is_an_act).prog 42) (kwd := []) Fu.ob_eq
    (by kernel_rfl) (fun s => by kernel_rfl) Fu.run (by kernel_rfl) (by kernel_rfl) (by kernel_rfl) (by rfl) (by first | assumption | decide +kernel) (by decide +kernel) ⟨rfl, rfl, rfl, rfl, rfl, by decide +kernel⟩ ?hw ?hc
  case hw => w_witness2
  case hc =>
    refine Fu.walkG (l := PySem.Challenge.rw_hookvows_k30_what_is_an_act) (n := 63) (k := 19) (x := "_law_script") rfl (by decide) (by kernel_rfl) ⟨rfl, by decide, by decide⟩ ?F
    intro w mg fa h Y G hmg0
    obtain ⟨K, KX, c, cp⟩ := Y
    have e : (HandSHeadRun.topDef (OpenLaw.row PySem.Challenge.rw_hookvows_k30_what_is_an_act).prog 42).name = ("law" : PySem.Str) := by kernel_rfl
    refine ⟨K, Fu.spF K mg 1 Fu.S_law, KX, fun H a ns hl _ hS => Fu.fin_law hl hS, fun base _ _ => ?_⟩
    rw [e]
    exact Fu.all KX G c cp base
