import PyProof.Rows.All
import Wide.All
import OpenK.AllK
import Wide.FinOn
import HandS.Call
import HandS.Words
import PySem.Challenge.RW_safepatch_k34_whole_sessions
import KE.KStateDown
import KE.KNestM
import KE.KSuper
import HandS.ExcField
import HandS.Exc
import HandS.Head0
import HandS.Head1
import HandS.Head2
import HandS.List
import HandS.Comp
import HandS.Text
import HandS.Iter
import KE.KDictKeyed
import KE.KeyNested
import PyProof.DictMoreH
import PyProof.TupleKey
import PyProof.DictKind
import KE.KDictPairs
import KE.KDictCopyH
import PyProof.DictRoadsH
import HandS.Dict
import HandS.IsInst
import HandS.TupAny
import HandS.Style
import HandS.Conv
import HandS.DictComp
import PyProof.Draws
import PyProof.ListStr
import KE.KDictWalk
import HandS.Property
import HandS.MakeKwOnly
import HandS.Defaults
import KE.KDictList
import PyProof.DictTable
import PyProof.ZipIter
import KE.KDictZip
import HandS.Replace
import HandS.WordsExc
import HandS.ExcOwn
import HandS.TryOnly
import HandS.ExcIs
import KE.KExcIs
import HandS.SetFor
import HandS.ReplaceList
import HandS.Lambda
import KE.KEqDict
import HandS.OwnEq
import HandS.Deep
import KE.SortData
import HandS.SortRule
import HandS.TupMul
import HandS.FStr
import HandS.Flow
import HandS.ReplaceLit
import KE.KExcSuper
import HandS.ExcInit
import HandS.Nested
import KE.KIsAll
import KE.KWithOwn
import HandS.HotCalls
import HandS.Finally
import KE.GoesRaise
import PyProof.P3Eq
import KE.KItemsList
import PyProof.ListNew
import HandS.ListItems
import PyProof.StrOps2
set_option Elab.async false
set_option linter.all false
set_option maxRecDepth 100000
set_option maxHeartbeats 4000000
namespace PD
end PD
namespace SP
open PySem PySem.Spec PyProof.Rows L2 PD
def topS (i : Nat) : Stmt := PySem.Challenge.pw_safepatch_k34_whole_sessions.main.body.getD i (.Pass ⟨0, 0, 0, 0⟩)
abbrev sNumber : Stmt := topS 12
abbrev sWord : Stmt := topS 13
abbrev sPiece : Stmt := topS 14
abbrev sText : Stmt := topS 15
abbrev sBlock : Stmt := topS 16
abbrev sOrder : Stmt := topS 17
abbrev sSWrite : Stmt := topS 18
abbrev sSText : Stmt := topS 19
abbrev sOld : Stmt := topS 20
abbrev sPut : Stmt := topS 21
abbrev sSAfter : Stmt := topS 22
abbrev sTornC : Stmt := topS 23
abbrev sTorn : Stmt := topS 24
abbrev sReadings : Stmt := topS 25
abbrev sIsSafe : Stmt := topS 26
abbrev sFile : Stmt := topS 31
abbrev sIsLetters : Stmt := topS 32
abbrev sArePieces : Stmt := topS 33
abbrev sIsPrice : Stmt := topS 34
abbrev sCheckFile : Stmt := topS 35
abbrev sCheckGoal : Stmt := topS 36
abbrev sFileState : Stmt := topS 37
abbrev sFileAt : Stmt := topS 38
abbrev sIsWrite : Stmt := topS 40
abbrev sAfter : Stmt := topS 41
abbrev sSafe : Stmt := topS 42
abbrev sCheckWrite : Stmt := topS 43
abbrev s_Session : Stmt := topS 46
abbrev s_Trial : Stmt := topS 47
abbrev s_Scope : Stmt := topS 48
abbrev s_check_edit : Stmt := topS 49
abbrev s_is_edit : Stmt := topS 50
abbrev s_edited : Stmt := topS 51
abbrev s__law_number : Stmt := topS 53
abbrev s__law_file : Stmt := topS 54
abbrev s__law_text : Stmt := topS 55
abbrev s__law_after : Stmt := topS 56
abbrev s__law_left : Stmt := topS 57
abbrev s__law_writes : Stmt := topS 58
abbrev s__law_moves : Stmt := topS 59
abbrev s__law_state : Stmt := topS 60
abbrev s__law_word : Stmt := topS 61
abbrev s__law_edit : Stmt := topS 62
abbrev s__law_done : Stmt := topS 63
abbrev s__law_edits : Stmt := topS 64
abbrev s__law_is_at : Stmt := topS 65
abbrev s__law_one_right : Stmt := topS 66
abbrev s__law_all_right : Stmt := topS 67
abbrev s_law : Stmt := topS 68
abbrev sFInit : Stmt := inClass sFile 0
abbrev sFText : Stmt := inClass sFile 7
abbrev s_Session_init : Stmt := inClass s_Session 0
abbrev s_Session_current : Stmt := inClass s_Session 1
abbrev s_Session_aim : Stmt := inClass s_Session 2
abbrev s_Session_journal : Stmt := inClass s_Session 3
abbrev s_Session_len : Stmt := inClass s_Session 4
abbrev s_Session_edit : Stmt := inClass s_Session 5
abbrev s_Session_undo : Stmt := inClass s_Session 6
abbrev s_Session_branch : Stmt := inClass s_Session 7
abbrev s_Session_trial : Stmt := inClass s_Session 8
abbrev s_Session_tried : Stmt := inClass s_Session 9
abbrev s_Trial_init : Stmt := inClass s_Trial 0
abbrev s_Trial_enter : Stmt := inClass s_Trial 1
abbrev s_Trial_exit : Stmt := inClass s_Trial 2
abbrev s_Scope_init : Stmt := inClass s_Scope 0
abbrev s_Scope_fixed : Stmt := inClass s_Scope 1
end SP

/-! Questions to what the top has left: what the run tells. -/
namespace PD
open PySem PySem.W PySem.W.X PySem.Calls PyProof.Rows HandSHeadRun
abbrev noObj : Obj := { cls := .none, data := .fields #[] }
def wholeK (ts : List Addr) (n : Nat) (g : Addr → Option Obj) : PySem.W.Frag := (List.range n).filterMap fun a => if ts.contains a then none else (g a).map fun o => (a, o)
/-- the run's equation: what is looked at is any function of the state -/
def RunX {α : Type} (r : OpenRow) (q : Program) (val : World → α) (ob : SharedT → α) (M : Nat) (loose : List PySem.Str) (w : World) : Prop := ∀ os : OsState, Option.map (fun s => ((looksF r.prog (boot_heap w.params) s.abs : Bool), seenQ q loose (importedModules r.prog.main.body) (fun s => xlAt q [] s && recOk r.toRowW.records s) s.abs, ob s)) (endF (stepQ (denQ tabQ) r.prog w) M r.prog w os) = some (true, openGood q loose, val w)
end PD
namespace HF
open PySem PySem.Spec PyProof.Rows L2 PD PySem.W PySem.W.X
section
variable {K : Frag}
def fdAt (K : Frag) (a : Addr) : Option FuncData := match K.lookup a with
  | some ⟨_, _, .func fd, _⟩ => some fd
  | _ => none
def cdOf (K : Frag) (a : Addr) : Value := match fdAt K a with
  | some fd => fd.code
  | none => .none
def kwOf (K : Frag) (a : Addr) : Value := match fdAt K a with
  | some fd => fd.kwdefaults
  | none => .none
def clOf (K : Frag) (a : Addr) : List (Str × Addr) := match fdAt K a with
  | some fd => fd.closure
  | none => []
def refA : Value → Addr
  | .ref a => a
  | _ => 0
def isRefV : Value → Bool
  | .ref _ => true
  | _ => false
def isRef : Option (Option Value) → Bool
  | some (some (.ref _)) => true
  | _ => false
def refO : Option (Option Value) → Addr
  | some (some (.ref a)) => a
  | _ => 0
def tokO : Option (Option Value) → Tok
  | some (some (.int _ t)) => t
  | some (some (.str _ t)) => t
  | _ => 0
def isInt (i : Int) : Option (Option Value) → Bool
  | some (some (.int j _)) => decide (j = i)
  | _ => false
def isStr (x : Str) : Option (Option Value) → Bool
  | some (some (.str y _)) => decide (y = x)
  | _ => false
/-- where a name of the module stands; a method; a record's first part -/
def ga (K : Frag) (x : Str) : Addr := refO (nsIn K mainGlobals x)
def ma (K : Frag) (C : Addr) (m : Str) : Addr := refO (findIn K (.ref C) m)
def gp (K : Frag) (p : Addr) : Addr := match recIn K p "property" with
  | some (v :: _) => refA v
  | _ => 0
abbrev FV : Type := Option (Str × Str × Arguments × FuncBody × Scope × Addr × List Str × Value × Addr)
def fv : Option FuncData → FV
  | some fd => some (fd.name, fd.qualname, fd.params, fd.body, fd.scope, fd.globals, fd.closure.map (·.1), fd.defaults, fd.builtins)
  | none => none
inductive Ask where
  | b (f : Frag → Bool)
  | v (f : Frag → Option (Option Value)) (r : Option (Option Value))
  | o (f : Frag → Option Bool) (r : Option Bool)
  | d (at_ : Frag → Addr) (name qual : Str) (st : Stmt) (cs : List Str)
inductive Ans where
  | b (x : Bool)
  | v (x : Option (Option Value))
  | o (x : Option Bool)
  | d (x : FV) (c k : Bool)
def Ask.obs (K : Frag) : Ask → Ans
  | .b f => .b (f K)
  | .v f _ => .v (f K)
  | .o f _ => .o (f K)
  | .d at_ _ qual _ _ => .d (fv (fdAt K (at_ K))) (codeIn K (cdOf K (at_ K)) qual) (keepIn K (.ref (at_ K)))
def Ask.val : Ask → Ans
  | .b _ => .b true
  | .v _ r => .v r
  | .o _ r => .o r
  | .d _ name qual st cs => .d (some (name, qual, defArgs st, .stmts (defBody st), defScope st, mainGlobals, cs, .none, builtinsNs)) true true
def aRef (x : Str) : List Ask := [.b fun K => isRef (nsIn K mainGlobals x)]
def aInt (x : Str) (i : Int) : List Ask := [.b fun K => isInt i (nsIn K mainGlobals x)]
def aNone (x : Str) : List Ask := [.v (fun K => nsIn K mainGlobals x) (some none)]
def aB (f : Frag → Bool) : List Ask := [.b f]
def aV (f : Frag → Option (Option Value)) (r : Option (Option Value)) : List Ask := [.v f r]
def aO (f : Frag → Option Bool) (r : Option Bool) : List Ask := [.o f r]
def aDef (x : Str) (st : Stmt) : List Ask := [.b fun K => isRef (nsIn K mainGlobals x), .d (fun K => ga K x) x x st []]
def aMeth (C m qual : Str) (st : Stmt) : List Ask := [.b fun K => isRef (findIn K (.ref (ga K C)) m), .b fun K => isFn K (.ref (ma K (ga K C) m)), .d (fun K => ma K (ga K C) m) m qual st []]
def isRec : Option (List Value) → Bool
  | some (.ref _ :: _) => true
  | _ => false
def aProp (C m qual : Str) (st : Stmt) : List Ask := [.b fun K => isRef (findIn K (.ref (ga K C)) m), .v (fun K => specialIn K (.ref (ma K (ga K C) m)) "__get__") (some (some (.builtin "property.__get__"))), .o (fun K => takesIn K (.ref (ma K (ga K C) m))) (some true),
  .b fun K => isRec (recIn K (ma K (ga K C) m) "property"), .d (fun K => gp K (ma K (ga K C) m)) m qual st []]
def aInit (C q : Str) (st : Stmt) : List Ask := [.b fun K => makesIn K (ga K C), .b fun K => isRef (findIn K (.ref (ga K C)) "__init__"), .b fun K => isFn K (.ref (ma K (ga K C) "__init__")), .b fun K => keepIn K (.ref (ga K C)), .d (fun K => ma K (ga K C) "__init__") "__init__" q st []]
def kwA (K : Frag) (C : Str) : Addr := refA (kwOf K (ma K (ga K C) "__init__"))
/-- File's, with its three defaults -/
def aInitF (C : Str) (st : Stmt) : List Ask := aInit C "File.__init__" st ++ [.b fun K => isRefV (kwOf K (ma K (ga K C) "__init__")), .v (fun K => nsIn K (kwA K C) "torn") (some (some (.bool false))), .b fun K => isInt 1 (nsIn K (kwA K C) "piece_price"), .b fun K => isInt 1 (nsIn K (kwA K C) "order_price")]
/-- a def that makes lambdas -/
def cdA (K : Frag) (x : Str) : Addr := refA (cdOf K (ga K x))
def aMaker (x : Str) (st : Stmt) : List Ask := [.b fun K => isRef (nsIn K mainGlobals x), .d (fun K => ga K x) x x st [], .b fun K => isRefV (cdOf K (ga K x))]
/-- a tuple of two texts -/
def tup2 (K : Frag) (T : Addr) (x y : Str) : Bool := match K.lookup T with
  | some ⟨.type c, _, .seq us _, _⟩ => c == "tuple" && (match us.toList with
    | [.str a _, .str b _] => decide (a = x) && decide (b = y)
    | _ => false)
  | _ => false
/-- an own class of exceptions without __init__ -/
def aXc (C : Str) : List Ask := [.b fun K => keepIn K (.ref (ga K C)), .o (fun K => subIn K (.ref (ga K C)) (.type "BaseException")) (some true), .b fun K => typeIn K (.ref (ga K C)) == some (.type "type"), .b fun K => excIn K (ga K C) [.type "ValueError", .type "Exception", .type "BaseException", .type "object"] "ValueError.__new__"]
def obsG (ts : List Addr) (n m : Nat) (gs : List (List Ask)) (g : Addr → Option Obj) (tk : Nat) : List (List Ans) × Bool × List (Option Obj) := (gs.map (List.map (Ask.obs (wholeK ts n g))), Nat.ble m tk, ts.map g)
def valG (ts : List Addr) (gs : List (List Ask)) : List (List Ans) × Bool × List (Option Obj) := (gs.map (List.map Ask.val), true, ts.map fun _ => some noObj)
def obT (ts : List Addr) (n m : Nat) (gs : List (List Ask)) (s : SharedT) := obsG ts n m gs (HandSHeadRun.getT s) s.toks
def obS (ts : List Addr) (n m : Nat) (gs : List (List Ask)) (s : Shared) := obsG ts n m gs s.heap.get? s.toks
end
end HF

/-! What is asked of the top of this law. -/
namespace HF
open PySem PySem.Spec PyProof.Rows L2 PD PySem.W SP
def q0 (P : Program) : List (List Ask) := [
  aRef "File",
  aNone "isinstance",
  aNone "int",
  aNone "bool",
  aNone "str",
  aNone "tuple",
  aNone "list",
  aNone "len",
  aNone "all",
  aNone "range",
  aNone "enumerate",
  aNone "sum",
  aNone "zip",
  aInt "PIECE_LETTERS" 2,
  aInt "ORDER_BLOCKS" 3,
  aInt "TEXT_LETTERS" 6,
  aInt "MOST_BLOCKS" 4,
  aInt "MOST_PRICE" 5,
  aInt "MOST_TRIED" 20,
  aRef "LETTER_SETS",
  aB fun K => tup2 K (ga K "LETTER_SETS") "ab" "abc",
  aB fun K => plainGet K (ga K "File") Str.empty,
  aB fun K => hasDictIn K (ga K "File"),
  aB fun K => plainOver K (ga K "File"),
  aV (fun K => findIn K (.ref (ga K "File")) "__setattr__") (some (some (.builtin "object.__setattr__"))),
  aV (fun K => findIn K (.ref (ga K "File")) "__class__") (some (some (.builtin "object.__class__"))),
  aV (fun K => specialIn K (.builtin "object.__class__") "__get__") (some (some (.builtin "getset_descriptor.__get__"))),
  aO (fun K => takesIn K (.builtin "object.__class__")) (some true),
  aO (fun K => mroIn K (ga K "File") (.type "object")) (some true),
  aV (fun K => findIn K (.ref (ga K "File")) "_letters") (some none),
  aV (fun K => findIn K (.ref (ga K "File")) "_pieces") (some none),
  aV (fun K => findIn K (.ref (ga K "File")) "_order") (some none),
  aV (fun K => findIn K (.ref (ga K "File")) "_piece_price") (some none),
  aV (fun K => findIn K (.ref (ga K "File")) "_order_price") (some none),
  aV (fun K => findIn K (.ref (ga K "File")) "_torn") (some none),
  aProp "File" "letters" "File.letters" (inClass sFile 1),
  aProp "File" "pieces" "File.pieces" (inClass sFile 2),
  aProp "File" "order" "File.order" (inClass sFile 3),
  aProp "File" "piece_price" "File.piece_price" (inClass sFile 4),
  aProp "File" "order_price" "File.order_price" (inClass sFile 5)]
def q1 (P : Program) : List (List Ask) := [
  aProp "File" "torn" "File.torn" (inClass sFile 6),
  aProp "File" "text" "File.text" sFText,
  aInitF "File" sFInit,
  aDef "is_number" (sNumber),
  aDef "is_word" (sWord),
  aDef "is_piece" (sPiece),
  aDef "is_text" (sText),
  aDef "is_block" (sBlock),
  aDef "is_order" (sOrder),
  aDef "is_state_write" (sSWrite),
  aDef "state_text" (sSText),
  aDef "old_content" (sOld),
  aDef "put_content" (sPut),
  aDef "state_after" (sSAfter),
  aDef "torn_contents" (sTornC),
  aDef "torn_states" (sTorn),
  aDef "state_readings" (sReadings),
  aDef "is_safe_write" (sIsSafe),
  aDef "is_letters" (sIsLetters),
  aDef "are_pieces" (sArePieces),
  aDef "is_price" (sIsPrice),
  aDef "check_file" (sCheckFile),
  aDef "check_goal" (sCheckGoal),
  aDef "file_state" (sFileState),
  aDef "file_at" (sFileAt),
  aDef "is_write" (sIsWrite),
  aDef "check_write" (sCheckWrite),
  aDef "after" (sAfter),
  aDef "is_safe" (sSafe),
  aDef "is_edit" (s_is_edit),
  aDef "check_edit" (s_check_edit),
  aDef "edited" (s_edited),
  aDef "_law_number" (s__law_number),
  aDef "_law_file" (s__law_file),
  aDef "_law_text" (s__law_text),
  aDef "_law_after" (s__law_after),
  aDef "_law_left" (s__law_left),
  aDef "_law_writes" (s__law_writes),
  aDef "_law_moves" (s__law_moves),
  aDef "_law_state" (s__law_state)]
def q2 (P : Program) : List (List Ask) := [
  aDef "_law_edit" (s__law_edit),
  aDef "_law_done" (s__law_done),
  aDef "_law_edits" (s__law_edits),
  aDef "_law_is_at" (s__law_is_at),
  aDef "_law_word" (s__law_word),
  aRef "Session",
  aRef "Scope",
  aRef "Trial",
  aRef "BadEdit",
  aRef "NothingDone",
  aB fun K => plainGet K (ga K "Session") Str.empty,
  aB fun K => hasDictIn K (ga K "Session"),
  aB fun K => plainOver K (ga K "Session"),
  aV (fun K => findIn K (.ref (ga K "Session")) "__setattr__") (some (some (.builtin "object.__setattr__"))),
  aB fun K => plainGet K (ga K "Scope") Str.empty,
  aB fun K => hasDictIn K (ga K "Scope"),
  aB fun K => plainOver K (ga K "Scope"),
  aV (fun K => findIn K (.ref (ga K "Scope")) "__setattr__") (some (some (.builtin "object.__setattr__"))),
  aB fun K => plainGet K (ga K "Trial") Str.empty,
  aB fun K => hasDictIn K (ga K "Trial"),
  aB fun K => plainOver K (ga K "Trial"),
  aV (fun K => findIn K (.ref (ga K "Trial")) "__setattr__") (some (some (.builtin "object.__setattr__"))),
  aV (fun K => findIn K (.ref (ga K "Session")) "_scope") (some none),
  aV (fun K => findIn K (.ref (ga K "Scope")) "moments") (some none),
  aV (fun K => findIn K (.ref (ga K "Scope")) "outer") (some none),
  aV (fun K => findIn K (.ref (ga K "Trial")) "session") (some none),
  aProp "Session" "current" "Session.current" s_Session_current,
  aProp "Session" "aim" "Session.aim" s_Session_aim,
  aProp "Session" "journal" "Session.journal" s_Session_journal,
  aMeth "Session" "__len__" "Session.__len__" s_Session_len,
  aMeth "Session" "edit" "Session.edit" s_Session_edit,
  aMeth "Session" "undo" "Session.undo" s_Session_undo,
  aMeth "Session" "branch" "Session.branch" s_Session_branch,
  aMeth "Session" "trial" "Session.trial" s_Session_trial,
  aMeth "Session" "tried" "Session.tried" s_Session_tried,
  aInit "Session" "Session.__init__" s_Session_init,
  aInit "Scope" "Scope.__init__" s_Scope_init,
  aMeth "Scope" "fixed" "Scope.fixed" s_Scope_fixed,
  aInit "Trial" "Trial.__init__" s_Trial_init,
  aMeth "Trial" "__enter__" "Trial.__enter__" s_Trial_enter]
def q3 (P : Program) : List (List Ask) := [
  aMeth "Trial" "__exit__" "Trial.__exit__" s_Trial_exit,
  aXc "BadEdit",
  aXc "NothingDone",
  aO (fun K => exmOne K (.ref (ga K "NothingDone")) (.ref (ga K "NothingDone"))) (some true),
  aO (fun K => exmOne K (.ref (ga K "BadEdit")) (.ref (ga K "NothingDone"))) (some false),
  aO (fun K => exmOne K (.ref (ga K "BadEdit")) (.ref (ga K "BadEdit"))) (some true),
  aB fun K => (!([(ga K "Session"), (ga K "Scope"), (ga K "Trial")] : List Nat).contains (ga K "File")),
  aMaker "_law_one_right" s__law_one_right,
  aMaker "_law_all_right" s__law_all_right,
  aMaker "law" s_law,
  aB fun K => PySem.W.codeHdIn K (cdA K "_law_one_right") 622]
def qs (P : Program) : List (List Ask) := q0 P ++ q1 P ++ q2 P ++ q3 P
end HF

/-! The top, by one run. -/
namespace HeadT
open PySem PySem.W PySem.Calls PyProof.Rows
abbrev R : OpenRow := OpenLaw.row PySem.Challenge.rw_safepatch_k34_whole_sessions
abbrev qv : Program := view R.prog [68]
def n0 : List PySem.Str := [("_wall" : PySem.Str), ("PatchError" : PySem.Str), ("BadFile" : PySem.Str), ("BadWrite" : PySem.Str), ("BadGoal" : PySem.Str), ("BadEdit" : PySem.Str), ("NothingDone" : PySem.Str), ("PIECE_LETTERS" : PySem.Str), ("ORDER_BLOCKS" : PySem.Str), ("TEXT_LETTERS" : PySem.Str), ("is_number" : PySem.Str), ("is_word" : PySem.Str), ("is_piece" : PySem.Str), ("is_text" : PySem.Str), ("is_block" : PySem.Str), ("is_order" : PySem.Str), ("is_state_write" : PySem.Str), ("state_text" : PySem.Str), ("old_content" : PySem.Str), ("put_content" : PySem.Str), ("state_after" : PySem.Str), ("torn_contents" : PySem.Str), ("torn_states" : PySem.Str), ("state_readings" : PySem.Str), ("is_safe_write" : PySem.Str), ("LETTER_SETS" : PySem.Str), ("MOST_BLOCKS" : PySem.Str), ("MOST_PRICE" : PySem.Str), ("File" : PySem.Str), ("is_letters" : PySem.Str)]
def n1 : List PySem.Str := [("are_pieces" : PySem.Str), ("is_price" : PySem.Str), ("check_file" : PySem.Str), ("check_goal" : PySem.Str), ("file_state" : PySem.Str), ("file_at" : PySem.Str), ("is_write" : PySem.Str), ("after" : PySem.Str), ("is_safe" : PySem.Str), ("check_write" : PySem.Str), ("MOST_TRIED" : PySem.Str), ("Session" : PySem.Str), ("Trial" : PySem.Str), ("Scope" : PySem.Str), ("check_edit" : PySem.Str), ("is_edit" : PySem.Str), ("edited" : PySem.Str), ("_law_number" : PySem.Str), ("_law_file" : PySem.Str), ("_law_text" : PySem.Str), ("_law_after" : PySem.Str), ("_law_left" : PySem.Str), ("_law_writes" : PySem.Str), ("_law_moves" : PySem.Str), ("_law_state" : PySem.Str), ("_law_word" : PySem.Str), ("_law_edit" : PySem.Str), ("_law_done" : PySem.Str), ("_law_edits" : PySem.Str), ("_law_is_at" : PySem.Str)]
def n2 : List PySem.Str := [("_law_one_right" : PySem.Str), ("_law_all_right" : PySem.Str)]
def names : List PySem.Str := n0 ++ n1 ++ n2
set_option maxHeartbeats 0 in
theorem run (w : World) : PD.RunX R qv (fun _ => HF.valG [622] (HF.qs PySem.Challenge.rw_safepatch_k34_whole_sessions.prog)) (HF.obT [622] 640 1 (HF.qs PySem.Challenge.rw_safepatch_k34_whole_sessions.prog)) 8000 names w := by
  intro os
  kernel_rfl
end HeadT

/-! Data, without the heap: what stands for a value (Rp), the slots of a frame as data (En), what a reading gives as data (EvD ..). -/
namespace PD
open PySem PySem.Spec PyProof.Rows L2

/-! ### heaps -/
def Ex (H H' : Hp) : Prop := ∀ a o, H a = some o → H' a = some o
theorem Ex.rf (H : Hp) : Ex H H := fun _ _ h => h
theorem Ex.tr {H H1 H2 : Hp} (a : Ex H H1) (b : Ex H1 H2) : Ex H H2 := fun x o h => b x o (a x o h)
theorem Ex.new {H : Hp} {p : Addr} {o : HO} (h : H p = none) : Ex H (upd H p o) := fun a u e => by
  rw [upd_ne (ne_of_none e h)]
  exact e
theorem Ex.off {S H : Hp} {p : Addr} {o : HO} (e : Ex S H) (h : S p = none) : Ex S (upd H p o) := fun a u q => by
  rw [upd_ne (ne_of_none q h)]
  exact e a u q
theorem Ex.free {S H : Hp} (e : Ex S H) {p : Addr} (h : H p = none) : S p = none := by
  cases q : S p with
  | none => rfl
  | some o =>
    rw [e p o q] at h
    cases h
theorem ex_rd {H H' : Hp} {a : Addr} {u : HO} (e : Ex H H') (h : Rd H a u) : Rd H' a u := by
  rcases h with h | ⟨o, h⟩
  · exact Or.inl (e a _ h)
  · exact Or.inr ⟨o, e a _ h⟩
theorem ex_l {K : PySem.W.Frag} {H H' : Hp} {a : Addr} {xs : List V} (e : Ex H H') (h : SqL K H a xs) : SqL K H' a xs := by
  rcases h with h | h
  · exact Or.inl (ex_rd e h)
  · exact Or.inr h
theorem ex_t {K : PySem.W.Frag} {H H' : Hp} {a : Addr} {xs : List V} (e : Ex H H') (h : SqT K H a xs) : SqT K H' a xs := by
  rcases h with h | h
  · exact Or.inl (ex_rd e h)
  · exact Or.inr h

/-- from the still part S of the heap H to the still part S' of H': both grow, what is new in S' was free in H -/
structure Go (S H S' H' : Hp) : Prop where
  s : Ex S S'
  h : Ex H H'
  sub : Ex S' H'
  new : ∀ p o, S' p = some o → S p = none → H p = none
theorem Go.rf {S H : Hp} (e : Ex S H) : Go S H S H := ⟨Ex.rf S, Ex.rf H, e, fun p o a b => by rw [b] at a; cases a⟩
theorem Go.tr {S H S1 H1 S2 H2 : Hp} (a : Go S H S1 H1) (b : Go S1 H1 S2 H2) : Go S H S2 H2 :=
  ⟨a.s.tr b.s, a.h.tr b.h, b.sub, fun p o q n => by
    cases e : S1 p with
    | none => exact a.h.free (b.new p o q e)
    | some u => exact a.new p u e n⟩
/-- a new still object -/
theorem Go.up {S H : Hp} {p : Addr} {o : HO} (e : Ex S H) (n : H p = none) : Go S H (upd S p o) (upd H p o) :=
  ⟨Ex.new (e.free n), Ex.new n, fun a u q => by
    by_cases h : a = p
    · subst h
      rw [upd_same] at q ⊢
      exact q
    · rw [upd_ne h] at q ⊢
      exact e a u q, fun a u q m => by
    by_cases h : a = p
    · subst h; exact n
    · rw [upd_ne h, m] at q
      cases q⟩
/-- the still part stays, the heap grows -/
theorem Go.side {S H H' : Hp} (e : Ex S H) (x : Ex H H') : Go S H S H' := ⟨Ex.rf S, x, e.tr x, fun p o a b => by rw [b] at a; cases a⟩

/-! ### data -/
inductive DV where
  | non | bl (b : Bool) | int (i : Int) | str (x : Str)
  | tup (xs : List DV) | lst (xs : List DV) | obj (C : Addr) (fs : List (Str × DV)) | frz (xs : List DV)
  | dct (W : World) (ks vs : List DV) | tks (n : Nat) (zs : List Str) | adr (a : Addr)
/-- a list of texts whose identities are all from n on -/
def Young (n : Nat) (o : Obj) (zs : List Str) : Prop := o.cls = .type "list" ∧ ∃ (its : Array Value) (k : Nat), o.data = .seq its k ∧ its.size = zs.length ∧ ∀ (i : Nat) (z : Str), zs[i]? = some z → ∃ tx : Tok, its[i]? = some (Value.str z tx) ∧ n ≤ tx

/-- the entries of a dict by its object -/
def DxO (p : Addr) (es : List DictEntry) : HO := .ext fun h => es.length ≤ sizeLine ∧ (p == sysModules) = false ∧ ∃ o a ep, h.get? p = some o ∧ o.ExactDict ∧ o.data = .dict a ep ∧ a.toList = es
mutual
/-- a key as the hash sees it -/
def DV.nk : DV → NestedKey
  | .bl b => .num (if b = true then 1 else 0) | .int i => .num i | .str x => .text x | .tup xs => .tup (nkAll xs) | _ => .none
def nkAll : List DV → List NestedKey
  | [] => []
  | d :: ds => d.nk :: nkAll ds
end
mutual
/-- what a key may be (below a tuple) -/
def DV.isKey : DV → Bool
  | .non => true | .bl _ => true | .int _ => true | .str _ => true | .tup xs => keyAll xs | _ => false
def keyAll : List DV → Bool
  | [] => true
  | d :: ds => d.isKey && keyAll ds
end
def DV.isKeyD (d : DV) : Bool := d.isKey && decide (d.nk.depth ≤ 8)
mutual
inductive Rp (K : PySem.W.Frag) (S : Hp) : V → DV → Prop
  | non : Rp K S .non .non
  | bl (b : Bool) : Rp K S (.bl b) (.bl b)
  | int (i : Int) : Rp K S (.int i) (.int i)
  | str (x : Str) : Rp K S (.str x) (.str x)
  | tup {a : Addr} {xs : List V} {ds : List DV} : SqT K S a xs → RpA K S xs ds → Rp K S (.ref a) (.tup ds)
  | lst {a : Addr} {xs : List V} {ds : List DV} : Rd S a (.lst xs) → RpA K S xs ds → Rp K S (.ref a) (.lst ds)
  | obj {a C dx : Addr} {fs : List (Str × V)} {gs : List (Str × DV)} : S a = some (.ins C dx fs) → RpF K S fs gs → Rp K S (.ref a) (.obj C gs)
  | frz {a : Addr} {xs : List V} {ds : List DV} : SqL K S a xs → RpA K S xs ds → Rp K S (.ref a) (.frz ds)
  | dct {a : Addr} {od : Obj} {W : World} {es : List DictEntry} {ks vs : List DV} : S a = some (.frz od (DxO a es)) → RpD K S W es ks vs → (nkAll ks).Nodup → Rp K S (.ref a) (.dct W ks vs)
  | tks {a : Addr} {o : Obj} {n : Nat} {zs : List Str} : S a = some (.frz o (.lst (zs.map V.str))) → Young n o zs → Rp K S (.ref a) (.tks n zs)
  | adr (a : Addr) : Rp K S (.ref a) (.adr a)
inductive RpA (K : PySem.W.Frag) (S : Hp) : List V → List DV → Prop
  | nil : RpA K S [] []
  | cons {v : V} {vs : List V} {d : DV} {ds : List DV} : Rp K S v d → RpA K S vs ds → RpA K S (v :: vs) (d :: ds)
inductive RpF (K : PySem.W.Frag) (S : Hp) : List (Str × V) → List (Str × DV) → Prop
  | nil : RpF K S [] []
  | cons {n : Str} {v : V} {fs : List (Str × V)} {d : DV} {gs : List (Str × DV)} : Rp K S v d → RpF K S fs gs → RpF K S ((n, v) :: fs) ((n, d) :: gs)
/-- entries against keys and values -/
inductive RpD (K : PySem.W.Frag) (S : Hp) : World → List DictEntry → List DV → List DV → Prop
  | nil {W : World} : RpD K S W [] [] []
  | cons {W : World} {e : DictEntry} {es : List DictEntry} {kv vv : V} {kd vd : DV} {ks vs : List DV} : RelV kv e.key → e.hash = kd.nk.hash W → kd.isKeyD = true → Rp K S kv kd → RelV vv e.val → Rp K S vv vd → RpD K S W es ks vs → RpD K S W (e :: es) (kd :: ks) (vd :: vs)
end

section
variable {K : PySem.W.Frag} {S S' H H' : Hp}
mutual
theorem Rp.up (e : Ex S S') : ∀ {v : V} {d : DV}, Rp K S v d → Rp K S' v d
  | _, _, .non => .non
  | _, _, .bl b => .bl b
  | _, _, .int i => .int i
  | _, _, .str x => .str x
  | _, _, .tup h r => .tup (ex_t e h) (RpA.up e r)
  | _, _, .lst h r => .lst (ex_rd e h) (RpA.up e r)
  | _, _, .obj h r => .obj (e _ _ h) (RpF.up e r)
  | _, _, .frz h r => .frz (ex_l e h) (RpA.up e r)
  | _, _, .dct h r b => .dct (e _ _ h) (RpD.up e r) b
  | _, _, .tks h y => .tks (e _ _ h) y
  | _, _, .adr a => .adr a
theorem RpA.up (e : Ex S S') : ∀ {vs : List V} {ds : List DV}, RpA K S vs ds → RpA K S' vs ds
  | _, _, .nil => .nil
  | _, _, .cons h r => .cons (Rp.up e h) (RpA.up e r)
theorem RpF.up (e : Ex S S') : ∀ {fs : List (Str × V)} {gs : List (Str × DV)}, RpF K S fs gs → RpF K S' fs gs
  | _, _, .nil => .nil
  | _, _, .cons h r => .cons (Rp.up e h) (RpF.up e r)
theorem RpD.up (e : Ex S S') : ∀ {W : World} {es : List DictEntry} {ks vs : List DV}, RpD K S W es ks vs → RpD K S' W es ks vs
  | _, _, _, _, .nil => .nil
  | _, _, _, _, .cons a b c d f g r => .cons a b c (Rp.up e d) f (Rp.up e g) (RpD.up e r)
end
theorem RpA.len : ∀ {vs : List V} {ds : List DV}, RpA K S vs ds → vs.length = ds.length
  | _, _, .nil => rfl
  | _, _, .cons _ r => congrArg (· + 1) (RpA.len r)
theorem RpA.get : ∀ {vs : List V} {ds : List DV} {i : Nat} {d : DV}, RpA K S vs ds → ds[i]? = some d → ∃ v, vs[i]? = some v ∧ Rp K S v d
  | _, _, _, _, .nil, e => by simp at e
  | _, _, 0, _, .cons h _, e => by
    simp at e
    subst e
    exact ⟨_, rfl, h⟩
  | _, _, i + 1, d, .cons _ r, e => by
    obtain ⟨v, a, b⟩ := RpA.get (i := i) (d := d) r (by simpa using e)
    exact ⟨v, by simpa using a, b⟩
theorem RpA.getV : ∀ {vs : List V} {ds : List DV} {i : Nat} {v : V} {d : DV}, RpA K S vs ds → vs[i]? = some v → ds[i]? = some d → Rp K S v d := fun r a b => by
  obtain ⟨u, e, q⟩ := r.get b
  rw [e] at a
  cases a
  exact q
theorem RpA.append : ∀ {vs us : List V} {ds es : List DV}, RpA K S vs ds → RpA K S us es → RpA K S (vs ++ us) (ds ++ es)
  | _, _, _, _, .nil, r => r
  | _, _, _, _, .cons h q, r => .cons h (RpA.append q r)
theorem RpA.snoc {vs : List V} {ds : List DV} {v : V} {d : DV} (r : RpA K S vs ds) (h : Rp K S v d) : RpA K S (vs ++ [v]) (ds ++ [d]) := r.append (.cons h .nil)
theorem RpA.take : ∀ {vs : List V} {ds : List DV} (n : Nat), RpA K S vs ds → RpA K S (vs.take n) (ds.take n)
  | _, _, 0, _ => .nil
  | _, _, _ + 1, .nil => .nil
  | _, _, n + 1, .cons h r => .cons h (RpA.take n r)
theorem RpA.drop : ∀ {vs : List V} {ds : List DV} (n : Nat), RpA K S vs ds → RpA K S (vs.drop n) (ds.drop n)
  | _, _, 0, r => r
  | _, _, _ + 1, .nil => .nil
  | _, _, n + 1, .cons _ r => RpA.drop n r
theorem RpF.look : ∀ {fs : List (Str × V)} {gs : List (Str × DV)} {n : Str} {d : DV}, RpF K S fs gs → gs.lookup n = some d → ∃ v, fs.lookup n = some v ∧ Rp K S v d
  | _, _, _, _, .nil, e => by simp at e
  | _, _, n, d, .cons (n := m) h r, e => by
    by_cases q : n = m
    · subst q
      rw [List.lookup_cons_self] at e
      cases e
      exact ⟨_, List.lookup_cons_self, h⟩
    · have z : (n == m) = false := by simpa using q
      rw [List.lookup_cons, z] at e
      obtain ⟨v, a, b⟩ := RpF.look r e
      refine ⟨v, ?_, b⟩
      rw [List.lookup_cons, z]
      exact a
theorem RpF.no : ∀ {fs : List (Str × V)} {gs : List (Str × DV)} {n : Str}, RpF K S fs gs → gs.lookup n = none → fs.lookup n = none
  | _, _, _, .nil, _ => rfl
  | _, _, n, .cons (n := m) h r, e => by
    by_cases q : n = m
    · subst q
      rw [List.lookup_cons_self] at e
      cases e
    · have z : (n == m) = false := by simpa using q
      rw [List.lookup_cons, z] at e ⊢
      exact RpF.no r e
end

/-! ### the slots of a frame -/
/-- nothing known; a value that stands for d; a thing of one's own (at an address that nothing else names) -/
inductive EV where
  | un | val (d : DV) | ownD (d : DV) | exo (a dd : Addr) (gs : List (Str × DV))
abbrev EV.own (ds : List DV) : EV := .ownD (.lst ds)
abbrev Rho := List EV
/-- what stands at p, of one's own -/
inductive OwR (K : PySem.W.Frag) (S : Hp) (p : Addr) : HO → DV → Prop
  | lst {vs : List V} {ds : List DV} : RpA K S vs ds → OwR K S p (.lst vs) (.lst ds)
theorem OwR.up {K : PySem.W.Frag} {S S' : Hp} {p : Addr} {o : HO} {d : DV} (e : Ex S S') (h : OwR K S p o d) : OwR K S' p o d := by
  cases h with
  | lst r => exact .lst (r.up e)
theorem OwR.rp {K : PySem.W.Frag} {S S' : Hp} {p : Addr} {o : HO} {d : DV} (e : Ex S S') (h : OwR K S p o d) (hp : S' p = some o) : Rp K S' (.ref p) d := by
  cases h with
  | lst r => exact .lst (.inl hp) (r.up e)
def EnE (K : PySem.W.Frag) (H0 S H : Hp) : Option V → EV → Prop
  | _, .un => True
  | v, .val d => ∃ u, v = some u ∧ Rp K S u d
  | v, .exo a dd gs => v = some (.ref a) ∧ ∃ fs, S dd = some (.xd fs) ∧ RpF K S fs gs
  | v, .ownD d => ∃ p o, v = some (.ref p) ∧ H0 p = none ∧ S p = none ∧ H p = some o ∧ OwR K S p o d
structure En (K : PySem.W.Frag) (H0 S H : Hp) (σ : L2.St) (ρ : Rho) : Prop where
  len : σ.length = ρ.length
  at_ : ∀ (i : Nat) (v : Option V) (e : EV), σ[i]? = some v → ρ[i]? = some e → EnE K H0 S H v e
  sep : ∀ (i j : Nat) (p q : Addr) (ds es : DV), i ≠ j → ρ[i]? = some (.ownD ds) → ρ[j]? = some (.ownD es) → σ[i]? = some (some (.ref p)) → σ[j]? = some (some (.ref q)) → p ≠ q
section
variable {K : PySem.W.Frag} {H0 S S' H H' : Hp} {σ : L2.St} {ρ : Rho}
theorem EnE.go (g : Go S H S' H') : ∀ {v : Option V} {e : EV}, EnE K H0 S H v e → EnE K H0 S' H' v e
  | _, .un, _ => trivial
  | _, .exo _ _ _, ⟨a, fs, b, c⟩ => ⟨a, fs, g.s _ _ b, c.up g.s⟩
  | _, .val _, ⟨u, a, r⟩ => ⟨u, a, r.up g.s⟩
  | _, .ownD _, ⟨p, o, a, n, m, h, r⟩ => by
    have z : S' p = none := by
      cases q : S' p with
      | none => rfl
      | some u =>
        have z := g.new p u q m
        rw [h] at z
        cases z
    exact ⟨p, o, a, n, z, g.h p _ h, r.up g.s⟩
theorem En.go (g : Go S H S' H') (n : En K H0 S H σ ρ) : En K H0 S' H' σ ρ := ⟨n.len, fun i v e a b => (n.at_ i v e a b).go g, n.sep⟩
theorem En.val {i : Nat} {d : DV} (n : En K H0 S H σ ρ) (h : ρ[i]? = some (.val d)) : ∃ v, σ[i]? = some (some v) ∧ Rp K S v d := by
  have hi : i < σ.length := by
    rw [n.len]
    exact (List.getElem?_eq_some_iff.mp h).1
  obtain ⟨u, a, r⟩ := n.at_ i σ[i] _ (List.getElem?_eq_getElem hi) h
  exact ⟨u, by rw [List.getElem?_eq_getElem hi, a], r⟩
theorem En.ownD {i : Nat} {d : DV} (n : En K H0 S H σ ρ) (h : ρ[i]? = some (.ownD d)) : ∃ p o, σ[i]? = some (some (.ref p)) ∧ H0 p = none ∧ S p = none ∧ H p = some o ∧ OwR K S p o d := by
  have hi : i < σ.length := by
    rw [n.len]
    exact (List.getElem?_eq_some_iff.mp h).1
  obtain ⟨p, o, a, r⟩ := n.at_ i σ[i] _ (List.getElem?_eq_getElem hi) h
  exact ⟨p, o, by rw [List.getElem?_eq_getElem hi, a], r⟩
theorem En.own {i : Nat} {ds : List DV} (n : En K H0 S H σ ρ) (h : ρ[i]? = some (.own ds)) : ∃ p vs, σ[i]? = some (some (.ref p)) ∧ H0 p = none ∧ S p = none ∧ H p = some (.lst vs) ∧ RpA K S vs ds := by
  obtain ⟨p, o, a, b, c, e, r⟩ := n.ownD h
  cases r with
  | lst r => exact ⟨p, _, a, b, c, e, r⟩
theorem set_get {α : Type} {l : List α} {i j : Nat} {x y : α} (h : (l.set i x)[j]? = some y) : (i = j ∧ y = x) ∨ (i ≠ j ∧ l[j]? = some y) := by
  by_cases e : i = j
  · subst e
    have hl : i < l.length := by
      have := (List.getElem?_eq_some_iff.mp h).1
      rwa [List.length_set] at this
    rw [List.getElem?_set_self hl] at h
    exact .inl ⟨rfl, (Option.some.inj h).symm⟩
  · rw [List.getElem?_set_ne e] at h
    exact .inr ⟨e, h⟩
theorem En.set {i : Nat} {v : V} {d : DV} (n : En K H0 S H σ ρ) (r : Rp K S v d) : En K H0 S H (σ.set i (some v)) (ρ.set i (.val d)) where
  len := by rw [List.length_set, List.length_set]; exact n.len
  at_ := fun j u e a b => by
    rcases set_get a with ⟨rfl, rfl⟩ | ⟨hj, a⟩
    · rcases set_get b with ⟨_, rfl⟩ | ⟨hj, _⟩
      · exact ⟨v, rfl, r⟩
      · exact absurd rfl hj
    · rcases set_get b with ⟨h, _⟩ | ⟨_, b⟩
      · exact absurd h hj
      · exact n.at_ j u e a b
  sep := fun j k p q ds es hjk a b c e => by
    rcases set_get a with ⟨_, z⟩ | ⟨hj, a⟩
    · cases z
    · rcases set_get b with ⟨_, z⟩ | ⟨hk, b⟩
      · cases z
      · rw [List.getElem?_set_ne hj] at c
        rw [List.getElem?_set_ne hk] at e
        exact n.sep j k p q ds es hjk a b c e
/-- a slot is emptied, or forgotten -/
theorem En.wipe1 {i : Nat} {x : Option V} (n : En K H0 S H σ ρ) : En K H0 S H (σ.set i x) (ρ.set i .un) where
  len := by rw [List.length_set, List.length_set]; exact n.len
  at_ := fun j u e a b => by
    rcases set_get b with ⟨_, rfl⟩ | ⟨hj, b⟩
    · trivial
    · rw [List.getElem?_set_ne hj] at a
      exact n.at_ j u e a b
  sep := fun j k p q ds es hjk a b c e => by
    rcases set_get a with ⟨_, z⟩ | ⟨hj, a⟩
    · cases z
    · rcases set_get b with ⟨_, z⟩ | ⟨hk, b⟩
      · cases z
      · rw [List.getElem?_set_ne hj] at c
        rw [List.getElem?_set_ne hk] at e
        exact n.sep j k p q ds es hjk a b c e
def wipeR (ρ : Rho) : List Nat → Rho
  | [] => ρ
  | v :: vs => (wipeR ρ vs).set v .un
theorem En.wipe (n : En K H0 S H σ ρ) : ∀ vs : List Nat, En K H0 S H (wipe σ vs) (wipeR ρ vs)
  | [] => n
  | _ :: vs => (En.wipe n vs).wipe1
/-- a new thing of one's own -/
theorem En.setOwnD {i : Nat} {p : Addr} {o : HO} {d : DV} (n : En K H0 S H σ ρ) (h0 : H0 p = none) (hs : S p = none) (hh : H p = some o) (r : OwR K S p o d)
    (hp : ∀ j : Nat, j ≠ i → ∀ e, ρ[j]? = some (.ownD e) → σ[j]? ≠ some (some (.ref p))) : En K H0 S H (σ.set i (some (.ref p))) (ρ.set i (.ownD d)) where
  len := by rw [List.length_set, List.length_set]; exact n.len
  at_ := fun j u e a b => by
    rcases set_get a with ⟨rfl, rfl⟩ | ⟨hj, a⟩
    · rcases set_get b with ⟨_, rfl⟩ | ⟨hj, _⟩
      · exact ⟨p, o, rfl, h0, hs, hh, r⟩
      · exact absurd rfl hj
    · rcases set_get b with ⟨h, _⟩ | ⟨_, b⟩
      · exact absurd h hj
      · exact n.at_ j u e a b
  sep := fun j k x y ds' es hjk a b c e => by
    rcases set_get c with ⟨h1, z1⟩ | ⟨hj, c⟩
    · rcases set_get e with ⟨h2, z2⟩ | ⟨hk, e⟩
      · exact absurd (h1.symm.trans h2) hjk
      · rw [List.getElem?_set_ne hk] at b
        cases z1
        exact fun z => hp k (fun w => hk w.symm) es b (by rw [e, z])
    · rw [List.getElem?_set_ne hj] at a
      rcases set_get e with ⟨h2, z2⟩ | ⟨hk, e⟩
      · cases z2
        exact fun z => hp j (fun w => hj w.symm) ds' a (by rw [c, z])
      · rw [List.getElem?_set_ne hk] at b
        exact n.sep j k x y ds' es hjk a b c e
theorem En.setOwn {i : Nat} {p : Addr} {vs : List V} {ds : List DV} (n : En K H0 S H σ ρ) (h0 : H0 p = none) (hs : S p = none) (hh : H p = some (.lst vs)) (r : RpA K S vs ds)
    (hp : ∀ j : Nat, j ≠ i → ∀ e, ρ[j]? = some (.ownD e) → σ[j]? ≠ some (some (.ref p))) : En K H0 S H (σ.set i (some (.ref p))) (ρ.set i (.own ds)) := n.setOwnD h0 hs hh (.lst r) hp
/-- what stands at p (slot i) is changed -/
theorem En.chgD {i : Nat} {p : Addr} {o : HO} {d d' : DV} (n : En K H0 S H σ ρ) (hi : ρ[i]? = some (.ownD d)) (hp : σ[i]? = some (some (.ref p))) (hs : S p = none) (r : OwR K S p o d') : En K H0 S (upd H p o) σ (ρ.set i (.ownD d')) where
  len := by rw [List.length_set]; exact n.len
  at_ := fun j u e a b => by
    rcases set_get b with ⟨rfl, rfl⟩ | ⟨hj, b⟩
    · rw [hp] at a
      cases a
      obtain ⟨p', o', e1, h0, h1, _⟩ := n.at_ i _ _ hp hi
      cases e1
      exact ⟨p, o, rfl, h0, hs, upd_same, r⟩
    · have q := n.at_ j u e a b
      cases e with
      | un => trivial
      | exo _ _ _ => exact q
      | val d => exact q
      | ownD ds' =>
        obtain ⟨p', o', e1, h0, h1, h2, r2⟩ := q
        subst e1
        have ne : p' ≠ p := fun z => n.sep i j p p' d ds' hj hi b hp a z.symm
        exact ⟨p', o', rfl, h0, h1, by rw [upd_ne ne]; exact h2, r2⟩
  sep := fun j k x y ds' es' hjk a b c e => by
    have f : ∀ {m : Nat} {l : DV}, (ρ.set i (.ownD d'))[m]? = some (.ownD l) → ∃ l', ρ[m]? = some (.ownD l') := fun {m l} h => by
      rcases set_get h with ⟨rfl, _⟩ | ⟨_, h⟩
      · exact ⟨_, hi⟩
      · exact ⟨_, h⟩
    obtain ⟨l1, a⟩ := f a
    obtain ⟨l2, b⟩ := f b
    exact n.sep j k x y l1 l2 hjk a b c e
theorem En.chg {i : Nat} {p : Addr} {vs : List V} {ds es : List DV} (n : En K H0 S H σ ρ) (hi : ρ[i]? = some (.own ds)) (hp : σ[i]? = some (some (.ref p))) (hs : S p = none) (r : RpA K S vs es) : En K H0 S (upd H p (.lst vs)) σ (ρ.set i (.own es)) := n.chgD hi hp hs (.lst r)
/-- what is one's own is lent: as a still thing -/
theorem En.lend {i : Nat} {p : Addr} {o : HO} {d : DV} (n : En K H0 S H σ ρ) (hi : ρ[i]? = some (.ownD d)) (hp : σ[i]? = some (some (.ref p))) (hs : S p = none) (r : OwR K S p o d) : En K H0 (upd S p o) H σ (ρ.set i (.val d)) where
  len := by rw [List.length_set]; exact n.len
  at_ := fun j u e a b => by
    rcases set_get b with ⟨rfl, rfl⟩ | ⟨hj, b⟩
    · rw [hp] at a
      cases a
      exact ⟨.ref p, rfl, r.rp (Ex.new hs) upd_same⟩
    · have q := n.at_ j u e a b
      cases e with
      | un => trivial
      | exo _ _ _ => obtain ⟨a1, fs, b1, c1⟩ := q; exact ⟨a1, fs, Ex.new hs _ _ b1, c1.up (Ex.new hs)⟩
      | val d =>
        obtain ⟨u', e1, r1⟩ := q
        exact ⟨u', e1, r1.up (Ex.new hs)⟩
      | ownD ds' =>
        obtain ⟨p', o', e1, h0', h1, h2, r2⟩ := q
        subst e1
        have ne : p' ≠ p := fun z => n.sep i j p p' d ds' hj hi b hp a z.symm
        exact ⟨p', o', rfl, h0', by rw [upd_ne ne]; exact h1, h2, r2.up (Ex.new hs)⟩
  sep := fun j k x y ds' es' hjk a b c e => by
    rcases set_get a with ⟨_, z⟩ | ⟨hj, a⟩
    · cases z
    · rcases set_get b with ⟨_, z⟩ | ⟨hk, b⟩
      · cases z
      · exact n.sep j k x y ds' es' hjk a b c e
/-- what is one's own becomes still -/
theorem En.freeze {i : Nat} {d : DV} {S0 : Hp} (n : En K H0 S H σ ρ) (e0 : Go S0 H0 S H) (hi : ρ[i]? = some (.ownD d)) : ∃ S', Go S0 H0 S' H ∧ En K H0 S' H σ (ρ.set i (.val d)) ∧ Ex S S' := by
  obtain ⟨p, o, hp, h0, hs, hh, r⟩ := n.ownD hi
  refine ⟨upd S p o, ⟨e0.s.tr (Ex.new hs), e0.h, fun a u q => ?_, fun a u q m => ?_⟩, n.lend hi hp hs r, Ex.new hs⟩
  · by_cases h : a = p
    · subst h
      rw [upd_same] at q
      rw [hh]
      exact q
    · rw [upd_ne h] at q
      exact e0.sub a u q
  · by_cases h : a = p
    · subst h
      exact h0
    · rw [upd_ne h] at q
      exact e0.new a u q m
end

/-! ### what a reading gives -/
def Rs (K : PySem.W.Frag) (S H : Hp) (d : DV) (Q : VK) : Prop := ∀ v S' H', Go S H S' H' → Rp K S' v d → Q v H'
def EvD (K : PySem.W.Frag) (te : TE) (ρ : Rho) (d : DV) : Prop := ∀ H0 σ S H, Ex S H → En K H0 S H σ ρ → ∀ Q : VK, Rs K S H d Q → te σ H Q
def EvB (K : PySem.W.Frag) (tt : TT) (ρ : Rho) (b : Bool) : Prop := ∀ H0 σ S H, Ex S H → En K H0 S H σ ρ → ∀ Q : Bool → Hp → Prop, (∀ S' H', Go S H S' H' → Q b H') → tt σ H Q
def EvA (K : PySem.W.Frag) (ta : TA) (ρ : Rho) (ds : List DV) : Prop := ∀ H0 σ S H, Ex S H → En K H0 S H σ ρ → ∀ Q : List V → Hp → Prop, (∀ vs S' H', Go S H S' H' → RpA K S' vs ds → Q vs H') → ta σ H Q
def EvO (K : PySem.W.Frag) (to : TO) (ρ : Rho) (o : Option Int) : Prop := ∀ H0 σ S H, Ex S H → En K H0 S H σ ρ → ∀ Q : Option Int → Hp → Prop, (∀ S' H', Go S H S' H' → Q o H') → to σ H Q
/-- an operation on two values, one, some -/
def OpD (K : PySem.W.Frag) (r : R2) (a b d : DV) : Prop := ∀ S H x y, Ex S H → Rp K S x a → Rp K S y b → ∀ Q : VK, Rs K S H d Q → r x y H Q
def UnD (K : PySem.W.Frag) (r : V → Hp → VK → Prop) (a d : DV) : Prop := ∀ S H x, Ex S H → Rp K S x a → ∀ Q : VK, Rs K S H d Q → r x H Q
def CaD (K : PySem.W.Frag) (r : List V → Hp → VK → Prop) (ds : List DV) (d : DV) : Prop := ∀ S H xs, Ex S H → RpA K S xs ds → ∀ Q : VK, Rs K S H d Q → r xs H Q

section
variable {K : PySem.W.Frag} {ρ : Rho} {ta tb te : TE} {t u : TT} {a b d : DV} {r : R2}
theorem ev_var {i : Nat} (h : ρ[i]? = some (.val d)) : EvD K (tVar i) ρ d := fun _ σ S H e n Q q => by
  obtain ⟨v, hv, r⟩ := n.val h
  exact ⟨v, hv, q v S H (Go.rf e) r⟩
theorem ev_c {v : V} (h : ∀ S, Rp K S v d) : EvD K (tC v) ρ d := fun _ σ S H e n Q q => q v S H (Go.rf e) (h S)
theorem ev_op (ha : EvD K ta ρ a) (hb : EvD K tb ρ b) (hr : OpD K r a b d) : EvD K (tOp r ta tb) ρ d := fun H0 σ S H e n Q q =>
  ha H0 σ S H e n _ fun x S1 H1 g1 r1 => hb H0 σ S1 H1 g1.sub (n.go g1) _ fun y S2 H2 g2 r2 => hr S2 H2 x y g2.sub (r1.up g2.s) r2 Q fun v S3 H3 g3 r3 => q v S3 H3 ((g1.tr g2).tr g3) r3
theorem ev_un {r : V → Hp → VK → Prop} (ha : EvD K ta ρ a) (hr : UnD K r a d) : EvD K (tUn r ta) ρ d := fun H0 σ S H e n Q q =>
  ha H0 σ S H e n _ fun x S1 H1 g1 r1 => hr S1 H1 x g1.sub r1 Q fun v S3 H3 g3 r3 => q v S3 H3 (g1.tr g3) r3
theorem ea_nil : EvA K tNil ρ [] := fun _ σ S H e n Q q => q [] S H (Go.rf e) .nil
theorem ea_cons {tr : TA} {ds : List DV} (h : EvD K te ρ d) (hr : EvA K tr ρ ds) : EvA K (tCons te tr) ρ (d :: ds) := fun H0 σ S H e n Q q =>
  h H0 σ S H e n _ fun x S1 H1 g1 r1 => hr H0 σ S1 H1 g1.sub (n.go g1) _ fun vs S2 H2 g2 r2 => q (x :: vs) S2 H2 (g1.tr g2) (.cons (r1.up g2.s) r2)
theorem ev_tup {tx : TA} {ds : List DV} (h : EvA K tx ρ ds) (hl : ds.length ≤ 100000) : EvD K (tTup tx) ρ (.tup ds) := fun H0 σ S H e n Q q =>
  h H0 σ S H e n _ fun vs S1 H1 g1 r1 => ⟨Nat.le_trans (by rw [r1.len]; exact hl) (by decide), fun p hp => q _ _ _ (g1.tr (Go.up g1.sub hp)) (.tup (Or.inl (Or.inl upd_same)) (r1.up (Ex.new (g1.sub.free hp))))⟩
theorem ev_cb {f : List V → Hp → VK → Prop} {tx : TA} {ds : List DV} (h : EvA K tx ρ ds) (hf : CaD K f ds d) : EvD K (tCB f tx) ρ d := fun H0 σ S H e n Q q =>
  h H0 σ S H e n _ fun vs S1 H1 g1 r1 => hf S1 H1 vs g1.sub r1 Q fun v S2 H2 g2 r2 => q v S2 H2 (g1.tr g2) r2
theorem ev_and {x y : Bool} (h1 : EvD K ta ρ (.bl x)) (h2 : x = true → EvD K tb ρ (.bl y)) : EvD K (tAndV ta tb) ρ (.bl (x && y)) := fun H0 σ S H e n Q q =>
  h1 H0 σ S H e n _ fun v S1 H1 g1 r1 => by
    cases r1
    refine ⟨x, rfl, ?_⟩
    cases x with
    | true =>
      rw [if_pos rfl]
      exact h2 rfl H0 σ S1 H1 g1.sub (n.go g1) Q fun v S2 H2 g2 r2 => q v S2 H2 (g1.tr g2) r2
    | false =>
      rw [if_neg (by decide)]
      exact q _ S1 H1 g1 (.bl _)
theorem ev_not {x : Bool} (h1 : EvD K ta ρ (.bl x)) : EvD K (tNotV ta) ρ (.bl (!x)) := fun H0 σ S H e n Q q =>
  h1 H0 σ S H e n _ fun v S1 H1 g1 r1 => by
    cases r1
    exact ⟨x, rfl, q _ S1 H1 g1 (.bl _)⟩
theorem ev_if {x : Bool} (h : EvB K t ρ x) (h1 : x = true → EvD K ta ρ d) (h2 : x = false → EvD K tb ρ d) : EvD K (tIf t ta tb) ρ d := fun H0 σ S H e n Q q =>
  h H0 σ S H e n _ fun S1 H1 g1 => by
    cases x with
    | true =>
      rw [if_pos rfl]
      exact h1 rfl H0 σ S1 H1 g1.sub (n.go g1) Q fun v S2 H2 g2 r2 => q v S2 H2 (g1.tr g2) r2
    | false =>
      rw [if_neg (by decide)]
      exact h2 rfl H0 σ S1 H1 g1.sub (n.go g1) Q fun v S2 H2 g2 r2 => q v S2 H2 (g1.tr g2) r2
theorem eb_val {x : Bool} (h : EvD K te ρ (.bl x)) : EvB K (tB te) ρ x := fun H0 σ S H e n Q q => h H0 σ S H e n _ fun v S1 H1 g1 r1 => by
  cases r1
  exact ⟨x, rfl, q S1 H1 g1⟩
theorem eb_test {x : Bool} (h : EvD K te ρ (.bl x)) : EvB K (tTest te) ρ x := fun H0 σ S H e n Q q => h H0 σ S H e n _ fun v S1 H1 g1 r1 => by
  cases r1
  exact ⟨x, rfl, q S1 H1 g1⟩
theorem eb_and {x y : Bool} (h1 : EvB K t ρ x) (h2 : x = true → EvB K u ρ y) : EvB K (tAnd t u) ρ (x && y) := fun H0 σ S H e n Q q => h1 H0 σ S H e n _ fun S1 H1 g1 => by
  cases x with
  | true =>
    rw [if_pos rfl]
    exact h2 rfl H0 σ S1 H1 g1.sub (n.go g1) Q fun S2 H2 g2 => q S2 H2 (g1.tr g2)
  | false =>
    rw [if_neg (by decide)]
    exact q S1 H1 g1
theorem eb_or {x y : Bool} (h1 : EvB K t ρ x) (h2 : x = false → EvB K u ρ y) : EvB K (tOr t u) ρ (x || y) := fun H0 σ S H e n Q q => h1 H0 σ S H e n _ fun S1 H1 g1 => by
  cases x with
  | false =>
    rw [if_neg (by decide)]
    exact h2 rfl H0 σ S1 H1 g1.sub (n.go g1) Q fun S2 H2 g2 => q S2 H2 (g1.tr g2)
  | true =>
    rw [if_pos rfl]
    exact q S1 H1 g1
theorem eb_not {x : Bool} (h1 : EvB K t ρ x) : EvB K (tNot t) ρ (!x) := fun H0 σ S H e n Q q => h1 H0 σ S H e n _ fun S1 H1 g1 => q S1 H1 g1
theorem eo_none : EvO K tNoPart ρ none := fun _ σ S H e n Q q => q S H (Go.rf e)
theorem eo_some {i : Int} (h : EvD K te ρ (.int i)) : EvO K (tPart te) ρ (some i) := fun H0 σ S H e n Q q => h H0 σ S H e n _ fun v S1 H1 g1 r1 => by
  cases r1
  exact ⟨i, rfl, q S1 H1 g1⟩
/-- a slice's rule by values -/
def SlD (K : PySem.W.Frag) (r : V → Option Int → Option Int → Hp → VK → Prop) (a : DV) (lo hi : Option Int) (d : DV) : Prop := ∀ S H x, Ex S H → Rp K S x a → ∀ Q : VK, Rs K S H d Q → r x lo hi H Q
theorem ev_sl {rs : V → Option Int → Option Int → Hp → VK → Prop} {tl th : TO} {lo hi : Option Int} (h : EvD K te ρ a) (h1 : EvO K tl ρ lo) (h2 : EvO K th ρ hi) (hs : SlD K rs a lo hi d) : EvD K (tSl rs te tl th) ρ d := fun H0 σ S H e n Q q =>
  h H0 σ S H e n _ fun x S1 H1 g1 r1 => h1 H0 σ S1 H1 g1.sub (n.go g1) _ fun S2 H2 g2 => h2 H0 σ S2 H2 g2.sub ((n.go g1).go g2) _ fun S3 H3 g3 =>
    hs S3 H3 x g3.sub ((r1.up g2.s).up g3.s) Q fun v S4 H4 g4 r4 => q v S4 H4 (((g1.tr g2).tr g3).tr g4) r4
/-- a promise over data: on ds it hands back d (R ds d) -/
def spR (K : PySem.W.Frag) (R : List DV → DV → Prop) : Sp := fun vs H Q _ => ∃ S ds d, Ex S H ∧ RpA K S vs ds ∧ R ds d ∧ Rs K S H d Q
theorem ev_call {R : List DV → DV → Prop} {E : XK} {tx : TA} {ds : List DV} (h : EvA K tx ρ ds) (hR : R ds d) : EvD K (tCall (spR K R) [] E tx) ρ d := fun H0 σ S H e n Q q =>
  h H0 σ S H e n _ fun vs S1 H1 g1 r1 => ⟨S1, ds, d, g1.sub, by rw [List.append_nil]; exact r1, hR, fun v S2 H2 g2 r2 => q v S2 H2 (g1.tr g2) r2⟩
end

/-! ### statements -/
structure Po where
  nx : Rho → Prop
  rt : DV → Prop := fun _ => False
  bk : Rho → Prop := fun _ => False
  ct : Rho → Prop := fun _ => False
structure Ok (K : PySem.W.Frag) (S0 H0 B : Hp) (D : Ends) (E : Po) : Prop where
  nx : ∀ ρ σ S H, E.nx ρ → Go S0 H0 S H → Ex B S → En K H0 S H σ ρ → D.nx σ H
  rt : ∀ d v S H, E.rt d → Go S0 H0 S H → Rp K S v d → D.rt v H
  bk : ∀ ρ σ S H, E.bk ρ → Go S0 H0 S H → Ex B S → En K H0 S H σ ρ → D.bk σ H
  ct : ∀ ρ σ S H, E.ct ρ → Go S0 H0 S H → Ex B S → En K H0 S H σ ρ → D.ct σ H
def StD (K : PySem.W.Frag) (ts : TS) (ρ : Rho) (E : Po) : Prop := ∀ S0 H0 B σ S H D, Go S0 H0 S H → Ex B S → En K H0 S H σ ρ → Ok K S0 H0 B D E → ts D σ H
section
variable {K : PySem.W.Frag} {ρ ρ' : Rho} {ta tb te : TE} {t : TT} {ts tu tw : TS} {a b d : DV} {E : Po}
theorem st_next (h : E.nx ρ) : StD K tNext ρ E := fun S0 H0 B σ S H D g b n o => o.nx ρ σ S H h g b n
theorem st_seq (h : StD K ts ρ { E with nx := fun ρ' => StD K tu ρ' E }) : StD K (tSeq ts tu) ρ E := fun S0 H0 B σ S H D g b n o =>
  h S0 H0 B σ S H { D with nx := tu D } g b n ⟨fun ρ' σ' S' H' q g' b' n' => q S0 H0 B σ' S' H' D g' b' n' o, o.rt, o.bk, o.ct⟩
theorem st_asg {i : Nat} (h : EvD K te ρ d) (q : E.nx (ρ.set i (.val d))) : StD K (tAsg te (gName i)) ρ E := fun S0 H0 B σ S H D g b n o =>
  h H0 σ S H g.sub n _ fun v S1 H1 g1 r1 => o.nx _ _ S1 H1 q (g.tr g1) (b.tr g1.s) ((n.go g1).set r1)
theorem st_ret (h : EvD K te ρ d) (q : E.rt d) : StD K (tRet te) ρ E := fun S0 H0 B σ S H D g b n o =>
  h H0 σ S H g.sub n _ fun v S1 H1 g1 r1 => o.rt d v S1 H1 q (g.tr g1) r1
theorem st_if {x : Bool} (h : EvB K t ρ x) (h1 : x = true → StD K tu ρ E) (h2 : x = false → StD K tw ρ E) : StD K (tIfS t tu tw) ρ E := fun S0 H0 B σ S H D g b n o =>
  h H0 σ S H g.sub n _ fun S1 H1 g1 => by
    cases x with
    | true =>
      rw [if_pos rfl]
      exact h1 rfl S0 H0 B σ S1 H1 D (g.tr g1) (b.tr g1.s) (n.go g1) o
    | false =>
      rw [if_neg (by decide)]
      exact h2 rfl S0 H0 B σ S1 H1 D (g.tr g1) (b.tr g1.s) (n.go g1) o
theorem st_drop (h : EvD K te ρ d) (q : E.nx ρ) : StD K (tDrop te) ρ E := fun S0 H0 B σ S H D g b n o =>
  h H0 σ S H g.sub n _ fun v S1 H1 g1 r1 => o.nx _ _ S1 H1 q (g.tr g1) (b.tr g1.s) (n.go g1)
/-- a list of one's own is given away -/
theorem st_freeze {i : Nat} {d : DV} (hi : ρ[i]? = some (.ownD d)) (h : StD K ts (ρ.set i (.val d)) E) : StD K ts ρ E := fun S0 H0 B σ S H D g b n o => by
  obtain ⟨S', g', n', e'⟩ := n.freeze g hi
  exact h S0 H0 B σ S' H D g' (b.tr e') n' o
end
end PD

/-! Dicts whose keys are whole numbers, texts, None and nested tuples, side by side in one dict. The dict is a list of triples: the key, its value as it stands, the value under it. -/
namespace MX
open PySem
open Sem (wp)
/-! what a place tells -/
/-! the dict in the heap -/
section
variable {prog : Program} {w : World} {A : Around} {E : Value → Shared → Prop} {s : Shared}
end
section
variable {prog : Program} {w : World} {A : Around} {E : Value → Shared → Prop} {s : Shared} {d : Addr} {o : Obj} {es : Array DictEntry} {ep : Nat} {xs : List Ent} {k : NestedKey} {kv : Value} {Q : Option Nat → Shared → Prop}
end
end MX

/-! What is done with such dicts, by the values of the dict, the key and the thing stored. -/
namespace MX
open PySem
open Sem (wp)
section
variable {prog : Program} {w : World} {A : Around} {E : Value → Shared → Prop} {s : Shared} {d : Addr} {kv : Value} {k : NestedKey} {xs : List Ent}
/-! as the program asks it -/
variable (hd : (d == sysModules) = false)
include hd
end
end MX

/-! Dicts of the data layer over the mixed dicts. -/
namespace PD
open PySem PySem.Spec PyProof.Rows L2 MX

/-! ### lists of keys and values -/
section
variable {X : Cx} {pins : List (Addr × Obj)} {σ : L2.St} {S H : Hp} {s : Shared} {p : Addr} {W : World} {es : List DictEntry} {ks vs : List DV}
end
end PD

/-! Data: operators, built-ins, what is walked. -/
namespace PD
open PySem PySem.Spec PyProof.Rows L2
section
variable {K : PySem.W.Frag} {ρ : Rho} {ta tb te : TE} {a b d : DV}
theorem sz5 {n : Nat} (h : n ≤ 100000) : n ≤ sizeLine := Nat.le_trans h (by decide)
/-! ints -/
theorem od_I0 {g : Int → Int → V} {i j : Int} {d : DV} (h : ∀ S, Rp K S (g i j) d) : OpD K (rI0 g) (.int i) (.int j) d := fun S H x y e r1 r2 Q q => by
  cases r1
  cases r2
  exact ⟨i, j, rfl, rfl, q _ S H (Go.rf e) (h S)⟩
theorem od_I {C : Int → Int → Prop} {g : Int → Int → V} {i j : Int} {d : DV} (hc : C i j) (h : ∀ S, Rp K S (g i j) d) : OpD K (rI C g) (.int i) (.int j) d := fun S H x y e r1 r2 Q q => by
  cases r1
  cases r2
  exact ⟨i, j, rfl, rfl, hc, q _ S H (Go.rf e) (h S)⟩
/-! texts -/
theorem od_addS {x y : Str} (h : x.length + y.length ≤ 100000) : OpD K (fun x y H Q => ∃ i j, x = .str i ∧ y = .str j ∧ i.length + j.length ≤ sizeLine ∧ Q (.str (i ++ j)) H) (.str x) (.str y) (.str (x ++ y)) := fun S H _ _ e r1 r2 Q q => by
  cases r1
  cases r2
  exact ⟨x, y, rfl, rfl, sz5 h, q _ S H (Go.rf e) (.str _)⟩
theorem od_inSign {c : Nat} {z : Str} : OpD K (fun x y H Q => ∃ (c : Nat) (z : Str), x = .str ⟨#[c]⟩ ∧ y = .str z ∧ Q (.bl (decide (c ∈ z.cps.toList))) H) (.str ⟨#[c]⟩) (.str z) (.bl (decide (c ∈ z.cps.toList))) := fun S H _ _ e r1 r2 Q q => by
  cases r1
  cases r2
  exact ⟨c, z, rfl, rfl, q _ S H (Go.rf e) (.bl _)⟩
/-! flat things -/
def DV.flat : DV → Bool
  | .non => true | .bl _ => true | .int _ => true | .str _ => true | _ => false
def DV.v : DV → V
  | .non => .non | .bl b => .bl b | .int i => .int i | .str x => .str x | _ => .non
theorem flat_rp {S : Hp} {v : V} {d : DV} (h : d.flat = true) (r : Rp K S v d) : v = d.v ∧ flatV v = true := by
  cases r <;> first | exact ⟨rfl, rfl⟩ | cases h
theorem flat_all {S : Hp} : ∀ {vs : List V} {ds : List DV}, ds.all DV.flat = true → RpA K S vs ds → vs = ds.map DV.v ∧ vs.all flatV = true
  | _, _, _, .nil => ⟨rfl, rfl⟩
  | _, _, h, .cons r q => by
    rw [List.all_cons, Bool.and_eq_true] at h
    obtain ⟨h1, h2⟩ := h
    obtain ⟨e1, f1⟩ := flat_rp h1 r
    obtain ⟨e2, f2⟩ := flat_all h2 q
    exact ⟨by rw [e1, e2]; rfl, by rw [List.all_cons, f1, f2]; rfl⟩
/-- two flat things of one kind (or one of them None): equal as Python has it -/
def DV.eqF (a b : DV) : Bool := decide (a.v = b.v)
theorem od_eqF (h : a.flat = true) (h' : b.flat = true) (hs : scal a.v b.v = true) : OpD K rEq a b (.bl (a.eqF b)) := fun S H x y e r1 r2 Q q => by
  obtain ⟨rfl, _⟩ := flat_rp h r1
  obtain ⟨rfl, _⟩ := flat_rp h' r2
  exact ⟨hs, q _ S H (Go.rf e) (.bl _)⟩
theorem od_neF (h : a.flat = true) (h' : b.flat = true) (hs : scal a.v b.v = true) : OpD K rNe a b (.bl (!a.eqF b)) := fun S H x y e r1 r2 Q q => by
  obtain ⟨rfl, _⟩ := flat_rp h r1
  obtain ⟨rfl, _⟩ := flat_rp h' r2
  exact ⟨hs, q _ S H (Go.rf e) (.bl _)⟩
theorem od_eqS {x y : Str} : OpD K rEq (.str x) (.str y) (.bl (decide (x = y))) := by
  have h := od_eqF (K := K) (a := .str x) (b := .str y) rfl rfl rfl
  have e : DV.eqF (.str x) (.str y) = decide (x = y) := by
    show decide (V.str x = V.str y) = _
    by_cases h : x = y
    · subst h; simp
    · rw [decide_eq_false h, decide_eq_false (fun z => h (V.str.inj z))]
  rw [e] at h
  exact h
theorem od_neS {x y : Str} : OpD K rNe (.str x) (.str y) (.bl (!decide (x = y))) := by
  have h := od_neF (K := K) (a := .str x) (b := .str y) rfl rfl rfl
  have e : DV.eqF (.str x) (.str y) = decide (x = y) := by
    show decide (V.str x = V.str y) = _
    by_cases h : x = y
    · subst h; simp
    · rw [decide_eq_false h, decide_eq_false (fun z => h (V.str.inj z))]
  rw [e] at h
  exact h
theorem od_eqI {x y : Int} : OpD K rEq (.int x) (.int y) (.bl (decide (x = y))) := by
  have h := od_eqF (K := K) (a := .int x) (b := .int y) rfl rfl rfl
  have e : DV.eqF (.int x) (.int y) = decide (x = y) := by
    show decide (V.int x = V.int y) = _
    by_cases h : x = y
    · subst h; simp
    · rw [decide_eq_false h, decide_eq_false (fun z => h (V.int.inj z))]
  rw [e] at h
  exact h
theorem od_neI {x y : Int} : OpD K rNe (.int x) (.int y) (.bl (!decide (x = y))) := by
  have h := od_neF (K := K) (a := .int x) (b := .int y) rfl rfl rfl
  have e : DV.eqF (.int x) (.int y) = decide (x = y) := by
    show decide (V.int x = V.int y) = _
    by_cases h : x = y
    · subst h; simp
    · rw [decide_eq_false h, decide_eq_false (fun z => h (V.int.inj z))]
  rw [e] at h
  exact h
/-- a in (b, c, ..), a list or tuple of flat things -/
def inD (a : DV) (ds : List DV) : Bool := inV a.v (ds.map DV.v)
def DV.items : DV → Option (List DV)
  | .tup xs => some xs | .lst xs => some xs | .frz xs => some xs | _ => none
theorem items_rp {S : Hp} {v : V} {d : DV} {ds : List DV} (h : d.items = some ds) (r : Rp K S v d) : ∃ p xs, v = .ref p ∧ (SqL K S p xs ∨ SqT K S p xs) ∧ RpA K S xs ds := by
  cases r with
  | tup a b => cases h; exact ⟨_, _, rfl, .inr a, b⟩
  | lst a b => cases h; exact ⟨_, _, rfl, .inl (.inl a), b⟩
  | frz a b => cases h; exact ⟨_, _, rfl, .inl a, b⟩
  | _ => cases h
theorem sq_up {S H : Hp} (e : Ex S H) {p : Addr} {xs : List V} (h : SqL K S p xs ∨ SqT K S p xs) : SqL K H p xs ∨ SqT K H p xs := h.imp (ex_l e) (ex_t e)
theorem od_in {neg : Bool} {ds : List DV} (h : a.flat = true) (hi : b.items = some ds) (hf : ds.all DV.flat = true) : OpD K (rIn K neg) a b (.bl (if neg then !inD a ds else inD a ds)) := fun S H x y e r1 r2 Q q => by
  obtain ⟨rfl, f⟩ := flat_rp h r1
  obtain ⟨p, xs, rfl, hs, ra⟩ := items_rp hi r2
  obtain ⟨rfl, fa⟩ := flat_all hf ra
  refine ⟨p, _, rfl, sq_up e hs, f, fa, q _ S H (Go.rf e) (.bl _)⟩
theorem od_is {ds : List DV} (h : a.flat = true) (hi : b.items = some ds) (hf : ds.all DV.flat = true) : OpD K (rIn K false) a b (.bl (inD a ds)) := od_in h hi hf
theorem od_notin {ds : List DV} (h : a.flat = true) (hi : b.items = some ds) (hf : ds.all DV.flat = true) : OpD K (rIn K true) a b (.bl (!inD a ds)) := od_in h hi hf
/-! deep == -/
mutual
def DV.pd : DV → PyData
  | .non => .none | .bl b => .bool b | .int i => .int i | .str x => .str x
  | .tup xs => .tuple (pdAll xs) | .lst xs => .list (pdAll xs) | .frz xs => .list (pdAll xs) | .obj _ _ => .none | .dct _ _ _ => .none | .tks _ _ => .none | .adr _ => .none
def pdAll : List DV → List PyData
  | [] => []
  | d :: ds => d.pd :: pdAll ds
end
mutual
def DV.plain : DV → Bool
  | .non => true | .bl _ => true | .int _ => true | .str x => PyData.strOk x
  | .tup xs => plainAll xs | .lst xs => plainAll xs | .frz xs => plainAll xs | .obj _ _ => false | .dct _ _ _ => false | .tks _ _ => false | .adr _ => false
def plainAll : List DV → Bool
  | [] => true
  | d :: ds => d.plain && plainAll ds
end
mutual
def DV.dep : DV → Nat
  | .non => 0 | .bl _ => 0 | .int _ => 0 | .str _ => 0
  | .tup xs => depAll xs + 1 | .lst xs => depAll xs + 1 | .frz xs => depAll xs + 1 | .obj _ _ => 0 | .dct _ _ _ => 0 | .tks _ _ => 0 | .adr _ => 0
def depAll : List DV → Nat
  | [] => 0
  | d :: ds => max d.dep (depAll ds)
end
mutual
theorem rp_dp {S : Hp} : ∀ {v : V} {d : DV}, d.plain = true → Rp K S v d → Dp K S v d.pd
  | _, _, _, .non => .non
  | _, _, _, .bl b => .bl b
  | _, _, _, .int i => .int i
  | _, _, _, .str x => .str x
  | _, _, h, .tup a r => .tup a (rp_dps (by simpa [DV.plain] using h) r)
  | _, _, h, .lst a r => .lst (.inl a) (rp_dps (by simpa [DV.plain] using h) r)
  | _, _, h, .frz a r => .lst a (rp_dps (by simpa [DV.plain] using h) r)
  | _, _, h, .obj _ _ => by simp [DV.plain] at h
  | _, _, h, .dct _ _ _ => by simp [DV.plain] at h
  | _, _, h, .tks _ _ => by simp [DV.plain] at h
  | _, _, h, .adr _ => by simp [DV.plain] at h
theorem rp_dps {S : Hp} : ∀ {vs : List V} {ds : List DV}, plainAll ds = true → RpA K S vs ds → DpAll K S vs (pdAll ds)
  | _, _, _, .nil => .nil
  | _, _, h, .cons r q => by
    rw [plainAll, Bool.and_eq_true] at h
    exact .cons (rp_dp h.1 r) (rp_dps h.2 q)
end
mutual
theorem pd_lay : ∀ {d : DV}, d.plain = true → d.pd.canLay0 = true
  | .non, _ => by simp [DV.pd, PyData.canLay0]
  | .bl _, _ => by simp [DV.pd, PyData.canLay0]
  | .int _, _ => by simp [DV.pd, PyData.canLay0]
  | .str x, h => by simpa [DV.pd, PyData.canLay0, DV.plain] using h
  | .tup xs, h => by
    rw [DV.pd, PyData.canLay0]
    exact pd_lays (by simpa [DV.plain] using h)
  | .lst xs, h => by
    rw [DV.pd, PyData.canLay0]
    exact pd_lays (by simpa [DV.plain] using h)
  | .frz xs, h => by
    rw [DV.pd, PyData.canLay0]
    exact pd_lays (by simpa [DV.plain] using h)
  | .obj _ _, h => by simp [DV.plain] at h
  | .dct _ _ _, h => by simp [DV.plain] at h
  | .tks _ _, h => by simp [DV.plain] at h
  | .adr _, h => by simp [DV.plain] at h
theorem pd_lays : ∀ {ds : List DV}, plainAll ds = true → PyData.canLayAll0 (pdAll ds) = true
  | [], _ => by rw [pdAll, PyData.canLayAll0]
  | d :: ds, h => by
    rw [plainAll, Bool.and_eq_true] at h
    rw [pdAll, PyData.canLayAll0, pd_lay h.1, pd_lays h.2]
    rfl
end
mutual
theorem pd_dep : ∀ d : DV, d.pd.depth = d.dep
  | .non => by simp [DV.pd, PyData.depth, DV.dep]
  | .bl _ => by simp [DV.pd, PyData.depth, DV.dep]
  | .int _ => by simp [DV.pd, PyData.depth, DV.dep]
  | .str x => by simp [DV.pd, PyData.depth, DV.dep]
  | .tup xs => by
    rw [DV.pd, PyData.depth, DV.dep, pd_deps xs]
  | .lst xs => by
    rw [DV.pd, PyData.depth, DV.dep, pd_deps xs]
  | .frz xs => by
    rw [DV.pd, PyData.depth, DV.dep, pd_deps xs]
  | .obj _ _ => by simp [DV.pd, PyData.depth, DV.dep]
  | .dct _ _ _ => by simp [DV.pd, PyData.depth, DV.dep]
  | .tks _ _ => by simp [DV.pd, PyData.depth, DV.dep]
  | .adr _ => by simp [DV.pd, PyData.depth, DV.dep]
theorem pd_deps : ∀ ds : List DV, PyData.depthAll (pdAll ds) = depAll ds
  | [] => by rw [pdAll, PyData.depthAll, depAll]
  | d :: ds => by
    rw [pdAll, PyData.depthAll, depAll, pd_dep d, pd_deps ds]
end
/-- data that == takes -/
def DV.ok (d : DV) : Bool := d.plain && decide (d.dep ≤ 64)
theorem ok_shaped {d : DV} (h : d.ok = true) : SeqAt.shaped d.pd = true := by
  unfold DV.ok at h
  rw [Bool.and_eq_true] at h
  unfold SeqAt.shaped
  rw [pd_lay h.1, pd_dep, h.2]
  rfl
theorem ok_plain {d : DV} (h : d.ok = true) : d.plain = true := by
  unfold DV.ok at h
  rw [Bool.and_eq_true] at h
  exact h.1
def DV.eqv (a b : DV) : Bool := PyData.eqv a.pd b.pd
mutual
theorem Dp_up {S H : Hp} (e : Ex S H) : ∀ {v : V} {d : PyData}, Dp K S v d → Dp K H v d
  | _, _, .non => .non
  | _, _, .bl b => .bl b
  | _, _, .int i => .int i
  | _, _, .str x => .str x
  | _, _, .lst a r => .lst (ex_l e a) (Dps_up e r)
  | _, _, .tup a r => .tup (ex_t e a) (Dps_up e r)
theorem Dps_up {S H : Hp} (e : Ex S H) : ∀ {vs : List V} {ds : List PyData}, DpAll K S vs ds → DpAll K H vs ds
  | _, _, .nil => .nil
  | _, _, .cons a r => .cons (Dp_up e a) (Dps_up e r)
end
theorem od_eqD (h : a.ok = true) (h' : b.ok = true) : OpD K (rEqD K) a b (.bl (a.eqv b)) := fun S H x y e r1 r2 Q q =>
  ⟨_, _, Dp_up e (rp_dp (ok_plain h) r1), Dp_up e (rp_dp (ok_plain h') r2), ok_shaped h, ok_shaped h', q _ S H (Go.rf e) (.bl _)⟩
theorem od_neD (h : a.ok = true) (h' : b.ok = true) : OpD K (rNeD K) a b (.bl (!a.eqv b)) := fun S H x y e r1 r2 Q q =>
  ⟨_, _, Dp_up e (rp_dp (ok_plain h) r1), Dp_up e (rp_dp (ok_plain h') r2), ok_shaped h, ok_shaped h', q _ S H (Go.rf e) (.bl _)⟩
/-! tuples, lists -/
theorem od_catT {xs ys : List DV} (h : xs.length + ys.length ≤ 100000) : OpD K (rCatA K) (.tup xs) (.tup ys) (.tup (xs ++ ys)) := fun S H x y e r1 r2 Q q => by
  cases r1 with
  | tup s1 a1 =>
    cases r2 with
    | tup s2 a2 =>
      refine ⟨_, _, _, _, rfl, rfl, ex_t e s1, ex_t e s2, by rw [a1.len, a2.len]; exact sz5 h, fun e1 => ?_, fun n1 e2 => ?_, fun n1 n2 p hp => ?_⟩
      · subst e1
        cases a1
        exact q _ S H (Go.rf e) (.tup s2 a2)
      · subst e2
        cases a2
        rw [List.append_nil] at q
        exact q _ S H (Go.rf e) (.tup s1 a1)
      · exact q _ _ _ (Go.up e hp) (.tup (.inl (.inl upd_same)) ((a1.append a2).up (Ex.new (e.free hp))))
def rCatR : R2 := fun x y H Q => ∃ l b xs zs, x = .ref l ∧ y = .ref b ∧ Rd H l (.lst xs) ∧ Rd H b (.lst zs) ∧ xs.length + zs.length ≤ sizeLine ∧ ∀ p, H p = none → Q (.ref p) (upd H p (.lst (xs ++ zs)))
theorem op_catR {X : Cx} : OpR X (binaryOp .Add) rCatR := by
  intro pins s σ H x y v u Q I rx ry h
  obtain ⟨l, b, xs, zs, rfl, rfl, hH, hB, hz, q⟩ := h
  cases rx
  cases ry
  obtain ⟨z, its, n, r, e⟩ := hH.ok I.hok
  obtain ⟨z2, its2, n2, r2, e2⟩ := hB.ok I.hok
  have hl := r.length
  have hl2 := r2.length
  refine PySem.P.add_list e e2 ?_ (by rw [List.size_toArray, List.size_toArray]; omega)
  have ea : its.toArray ++ its2.toArray = (its ++ its2).toArray := by simp
  rw [ea]
  exact ⟨.ref _, _, I.lnew (t' := s.toks) (r.append r2) (by rw [List.length_append]; omega), rfl, q _ I.fresh⟩
theorem od_catL {xs ys : List DV} (h : xs.length + ys.length ≤ 100000) : OpD K rCatR (.lst xs) (.lst ys) (.lst (xs ++ ys)) := fun S H x y e r1 r2 Q q => by
  cases r1 with
  | lst s1 a1 =>
    cases r2 with
    | lst s2 a2 =>
      refine ⟨_, _, _, _, rfl, rfl, ex_rd e s1, ex_rd e s2, by rw [a1.len, a2.len]; exact sz5 h, fun p hp => ?_⟩
      exact q _ _ _ (Go.up e hp) (.lst (.inl upd_same) ((a1.append a2).up (Ex.new (e.free hp))))
theorem at_len {α β : Type} {xs : List α} {ys : List β} (h : xs.length = ys.length) {i : Int} {y : β} (e : atI ys i = some y) : ∃ j, ixN xs.length i = some j ∧ ys[j]? = some y := by
  unfold atI at e
  rw [h]
  cases q : ixN ys.length i with
  | none => rw [q] at e; cases e
  | some j => rw [q] at e; exact ⟨j, rfl, e⟩
theorem rpa_at {S : Hp} {vs : List V} {ds : List DV} {i : Int} {d : DV} (r : RpA K S vs ds) (h : atI ds i = some d) : ∃ v, atI vs i = some v ∧ Rp K S v d := by
  obtain ⟨j, h1, h2⟩ := at_len r.len h
  obtain ⟨v, e, q⟩ := r.get h2
  refine ⟨v, ?_, q⟩
  unfold atI
  rw [h1]
  exact e
theorem od_ixT {xs : List DV} {i : Int} (h : atI xs i = some d) : OpD K (rIxT K) (.tup xs) (.int i) d := fun S H x y e r1 r2 Q q => by
  cases r1 with
  | tup s1 a1 =>
    cases r2
    obtain ⟨v, hv, rv⟩ := rpa_at a1 h
    exact ⟨_, _, _, _, rfl, rfl, ex_t e s1, hv, q _ S H (Go.rf e) rv⟩
theorem od_ixL {xs : List DV} {i : Int} (h : atI xs i = some d) : OpD K (rIxL K) (.lst xs) (.int i) d := fun S H x y e r1 r2 Q q => by
  cases r1 with
  | lst s1 a1 =>
    cases r2
    obtain ⟨v, hv, rv⟩ := rpa_at a1 h
    exact ⟨_, _, _, _, rfl, rfl, .inl (ex_rd e s1), hv, q _ S H (Go.rf e) rv⟩
def cutG {α : Type} (xs : List α) (lo hi : Option Int) : List α := (xs.drop (HT.sIx xs.length 0 lo)).take (HT.sIx xs.length xs.length hi - HT.sIx xs.length 0 lo)
theorem rpa_cut {S : Hp} {vs : List V} {ds : List DV} (r : RpA K S vs ds) (lo hi : Option Int) : RpA K S (cutV vs lo hi) (cutG ds lo hi) := by
  unfold cutV cutG
  rw [r.len]
  exact (r.drop _).take _
theorem sd_tup {xs : List DV} {lo hi : Option Int} : SlD K (rSlA K) (.tup xs) lo hi (.tup (cutG xs lo hi)) := fun S H x e r1 Q q => by
  cases r1 with
  | tup s1 a1 =>
    refine ⟨_, _, rfl, ex_t e s1, fun ⟨e1, e2⟩ => q _ S H (Go.rf e) (.tup s1 ?_), fun _ p hp => q _ _ _ (Go.up e hp) (.tup (.inl (.inl upd_same)) ((rpa_cut a1 lo hi).up (Ex.new (e.free hp))))⟩
    have z := rpa_cut a1 lo hi
    unfold cutV at z
    rw [e1, e2, List.drop_zero, Nat.sub_zero, List.take_length] at z
    exact z
theorem sd_lst {xs : List DV} {lo hi : Option Int} : SlD K (rSlL K) (.lst xs) lo hi (.lst (cutG xs lo hi)) := fun S H x e r1 Q q => by
  cases r1 with
  | lst s1 a1 =>
    exact ⟨_, _, rfl, .inl (ex_rd e s1), fun p hp => q _ _ _ (Go.up e hp) (.lst (.inl upd_same) ((rpa_cut a1 lo hi).up (Ex.new (e.free hp))))⟩
theorem sd_frz {xs : List DV} {lo hi : Option Int} : SlD K (rSlL K) (.frz xs) lo hi (.lst (cutG xs lo hi)) := fun S H x e r1 Q q => by
  cases r1 with
  | frz s1 a1 =>
    exact ⟨_, _, rfl, ex_l e s1, fun p hp => q _ _ _ (Go.up e hp) (.lst (.inl upd_same) ((rpa_cut a1 lo hi).up (Ex.new (e.free hp))))⟩
theorem sd_str {z : Str} {lo hi : Option Int} (hz : z.length ≤ 100000) : SlD K rSlS (.str z) lo hi (.str (cutS z lo hi)) := fun S H x e r1 Q q => by
  cases r1
  exact ⟨_, rfl, sz5 hz, q _ S H (Go.rf e) (.str _)⟩
/-! built-ins -/
theorem one {S : Hp} {vs : List V} {d : DV} (r : RpA K S vs [d]) : ∃ v, vs = [v] ∧ Rp K S v d := by
  cases r with
  | cons h q =>
    cases q
    exact ⟨_, rfl, h⟩
def rLenX (K : PySem.W.Frag) : List V → Hp → VK → Prop := fun xs H Q => ∃ p ys, xs = [.ref p] ∧ (SqL K H p ys ∨ SqT K H p ys) ∧ Q (.int ys.length) H
theorem cd_len {ds : List DV} (h : a.items = some ds) : CaD K (rLenX K) [a] (.int ds.length) := fun S H xs e r0 Q q => by
  obtain ⟨v, rfl, r⟩ := one r0
  obtain ⟨p, ys, rfl, hs, ra⟩ := items_rp h r
  exact ⟨p, ys, rfl, sq_up e hs, by rw [ra.len]; exact q _ S H (Go.rf e) (.int _)⟩
def rLenT : List V → Hp → VK → Prop := fun xs H Q => ∃ z : Str, xs = [.str z] ∧ z.length ≤ sizeLine ∧ Q (.int z.length) H
theorem cd_lenS {z : Str} (hz : z.length ≤ 100000) : CaD K rLenT [.str z] (.int z.length) := fun S H xs e r0 Q q => by
  obtain ⟨v, rfl, r⟩ := one r0
  cases r
  exact ⟨z, rfl, sz5 hz, q _ S H (Go.rf e) (.int _)⟩
theorem boolsD {S : Hp} : ∀ {vs : List V} {bs : List Bool}, RpA K S vs (bs.map DV.bl) → vs = bs.map V.bl
  | _, [], r => by cases r; rfl
  | _, b :: bs, r => by
    cases r with
    | cons h q =>
      cases h
      rw [boolsD q]
      rfl
theorem intsD {S : Hp} : ∀ {vs : List V} {bs : List Int}, RpA K S vs (bs.map DV.int) → vs = bs.map V.int
  | _, [], r => by cases r; rfl
  | _, b :: bs, r => by
    cases r with
    | cons h q =>
      cases h
      rw [intsD q]
      rfl
theorem strsD {S : Hp} : ∀ {vs : List V} {bs : List Str}, RpA K S vs (bs.map DV.str) → vs = bs.map V.str
  | _, [], r => by cases r; rfl
  | _, b :: bs, r => by
    cases r with
    | cons h q =>
      cases h
      rw [strsD q]
      rfl
theorem cd_all {bs : List Bool} : CaD K (rAll K) [.lst (bs.map DV.bl)] (.bl (bs.all id)) := fun S H xs e r0 Q q => by
  obtain ⟨v, rfl, r⟩ := one r0
  cases r with
  | lst s a1 =>
    have z := boolsD a1
    subst z
    exact ⟨_, bs, rfl, .inl (ex_rd e s), q _ S H (Go.rf e) (.bl _)⟩
theorem cd_sum {ns : List Int} : CaD K (rSum K) [.lst (ns.map DV.int)] (.int ns.sum) := fun S H xs e r0 Q q => by
  obtain ⟨v, rfl, r⟩ := one r0
  cases r with
  | lst s a1 =>
    have z := intsD a1
    subst z
    exact ⟨_, ns, rfl, .inl (ex_rd e s), q _ S H (Go.rf e) (.int _)⟩
def rListX (K : PySem.W.Frag) : List V → Hp → VK → Prop := fun xs H Q => ∃ p ys, xs = [.ref p] ∧ (SqL K H p ys ∨ SqT K H p ys) ∧ ∀ l, H l = none → Q (.ref l) (upd H l (.lst ys))
def rTupX (K : PySem.W.Frag) : List V → Hp → VK → Prop := fun xs H Q => ∃ p ys, xs = [.ref p] ∧ ((SqL K H p ys ∧ ∀ l, H l = none → Q (.ref l) (upd H l (.tup ys))) ∨ (SqT K H p ys ∧ Q (.ref p) H))
theorem cd_tuple {ds : List DV} (h : a.items = some ds) : CaD K (rTupX K) [a] (.tup ds) := fun S H xs e r0 Q q => by
  obtain ⟨v, rfl, r⟩ := one r0
  obtain ⟨p, ys, rfl, hs, ra⟩ := items_rp h r
  refine ⟨p, ys, rfl, ?_⟩
  rcases hs with hs | hs
  · exact .inl ⟨ex_l e hs, fun l hl => q _ _ _ (Go.up e hl) (.tup (.inl (.inl upd_same)) (ra.up (Ex.new (e.free hl))))⟩
  · exact .inr ⟨ex_t e hs, q _ S H (Go.rf e) (.tup hs ra)⟩
def rInt1 : List V → Hp → VK → Prop := fun xs H Q => (∃ i, xs = [.int i] ∧ Q (.int i) H) ∨ ∃ k, xs = [.bl k] ∧ Q (.int (if k then 1 else 0)) H
theorem cd_int {i : Int} : CaD K rInt1 [.int i] (.int i) := fun S H xs e r0 Q q => by
  obtain ⟨v, rfl, r⟩ := one r0
  cases r
  exact .inl ⟨i, rfl, q _ S H (Go.rf e) (.int _)⟩
/-! the kind of a thing -/
def DV.kind : DV → Option String
  | .non => some "NoneType" | .bl _ => some "bool" | .int _ => some "int" | .str _ => some "str" | .tup _ => some "tuple" | .lst _ => some "list" | .obj _ _ => none | .frz _ => none | .dct _ _ _ => none | .tks _ _ => none | .adr _ => none
theorem ty_of {S H : Hp} (e : Ex S H) {v : V} {t : String} (h : d.kind = some t) (r : Rp K S v d) : TyX K H v (.type t) := by
  cases r with
  | non => cases h; exact .base .non
  | bl b => cases h; exact .base (.bl b)
  | int i => cases h; exact .base (.int i)
  | str x => cases h; exact .base (.str x)
  | tup s _ =>
    cases h
    rcases ex_t e s with (s | ⟨o, s⟩) | ⟨o, its, n, s, c, _⟩
    · exact .base (.tup s)
    · exact .fTuple s
    · exact .kTuple s c
  | lst s _ =>
    cases h
    rcases ex_rd e s with s | ⟨o, s⟩
    · exact .base (.lst s)
    · exact .base (.frz s)
  | obj _ _ => cases h
  | frz _ _ => cases h
  | dct _ _ _ => cases h
  | tks _ _ => cases h
  | adr _ => cases h
/-- isinstance(x, T): the second argument's reading gives the class itself -/
def tIsi (K : PySem.W.Frag) (te : TE) (n : String) : TE := tCB (rIsi K) (tCons te (tCons (tC (.ty n)) tNil))
theorem ev_isi {n t : String} {b : Bool} (h : EvD K te ρ d) (hk : d.kind = some t) (hb : kitB t n = some b) : EvD K (tIsi K te n) ρ (.bl b) := fun H0 σ S H e m Q q =>
  h H0 σ S H e m _ fun x S1 H1 g1 r1 => ⟨x, .ty n, _, _, b, rfl, .ty n, ty_of g1.sub hk r1, kit_ty hb, q _ S1 H1 g1 (.bl _)⟩
end

/-! ### what is walked -/
structure WkD (K : PySem.W.Frag) (J : It) (S : Hp) (ds : List DV) : Prop where
  stop : ∀ H, Ex S H → J.stop ds.length H
  go : ∀ i H, Ex S H → i < ds.length → J.go i H
  yld : ∀ i H x H', J.yld i H x H' → ∀ d, ds[i]? = some d → ∀ S1, Ex S S1 → Ex S1 H → ∃ S', Go S1 H S' H' ∧ Rp K S' x d
def IvD (K : PySem.W.Frag) (wi : TI) (ρ : Rho) (ds : List DV) : Prop := ∀ H0 σ S H, Ex S H → En K H0 S H σ ρ → ∀ R : It → Hp → Prop, (∀ J S' H', Go S H S' H' → WkD K J S' ds → R J H') → wi σ H R
section
variable {K : PySem.W.Frag} {ρ : Rho} {te : TE} {d : DV}
theorem wk_l {S : Hp} {a : Addr} {xs : List V} {ds : List DV} (h : SqL K S a xs) (r : RpA K S xs ds) : WkD K (Itl K a) S ds where
  stop := fun H e => ⟨xs, ex_l e h, by rw [r.len]; exact Nat.le_refl _⟩
  go := fun i H e hi => ⟨xs, xs[i]'(by rw [r.len]; exact hi), ex_l e h, List.getElem?_eq_getElem _⟩
  yld := fun i H x H' y d hd S1 e e1 => by
    obtain ⟨rfl, f⟩ := y
    exact ⟨S1, Go.rf e1, (r.getV (f xs (ex_l (e.tr e1) h)) hd).up e⟩
theorem wk_t {S : Hp} {a : Addr} {xs : List V} {ds : List DV} (h : SqT K S a xs) (r : RpA K S xs ds) : WkD K (Itt K a) S ds where
  stop := fun H e => ⟨xs, ex_t e h, by rw [r.len]; exact Nat.le_refl _⟩
  go := fun i H e hi => ⟨xs, xs[i]'(by rw [r.len]; exact hi), ex_t e h, List.getElem?_eq_getElem _⟩
  yld := fun i H x H' y d hd S1 e e1 => by
    obtain ⟨rfl, f⟩ := y
    exact ⟨S1, Go.rf e1, (r.getV (f xs (ex_t (e.tr e1) h)) hd).up e⟩
theorem iv_list {ds : List DV} (h : EvD K te ρ (.lst ds)) : IvD K (iList K te) ρ ds := fun H0 σ S H e n R q =>
  h H0 σ S H e n _ fun v S1 H1 g1 r1 => by
    cases r1 with
    | lst s a => exact ⟨_, rfl, ⟨_, .inl (ex_rd g1.sub s)⟩, q _ S1 H1 g1 (wk_l (.inl s) a)⟩
theorem iv_tup {ds : List DV} (h : EvD K te ρ (.tup ds)) : IvD K (iTup K te) ρ ds := fun H0 σ S H e n R q =>
  h H0 σ S H e n _ fun v S1 H1 g1 r1 => by
    cases r1 with
    | tup s a => exact ⟨_, rfl, ⟨_, ex_t g1.sub s⟩, q _ S1 H1 g1 (wk_t s a)⟩
def rangeD (lo : Int) (n : Nat) : List DV := (List.range n).map fun (i : Nat) => DV.int (lo + (i : Int))
theorem rangeD_len {lo : Int} {n : Nat} : (rangeD lo n).length = n := by unfold rangeD; simp
theorem wk_r {S : Hp} (lo : Int) (n : Nat) : WkD K (Itr lo n) S (rangeD lo n) where
  stop := fun H e => by rw [rangeD_len]; exact Nat.le_refl n
  go := fun i H e hi => by rw [rangeD_len] at hi; exact hi
  yld := fun i H x H' y d hd S1 e e1 => by
    obtain ⟨rfl, rfl⟩ := y
    unfold rangeD at hd
    rw [List.getElem?_map] at hd
    cases q : (List.range n)[i]? with
    | none => rw [q] at hd; cases hd
    | some j =>
      rw [q] at hd
      have hj : i = j := by
        have z := List.getElem?_eq_some_iff.mp q
        obtain ⟨z1, z2⟩ := z
        rw [List.getElem_range] at z2
        exact z2
      subst hj
      cases hd
      exact ⟨S1, Go.rf e1, .int _⟩
theorem iv_range {n : Nat} (h : EvD K te ρ (.int n)) (hn : n ≤ 100000) : IvD K (iRng1 (tCons te tNil)) ρ (rangeD 0 n) := fun H0 σ S H e m R q =>
  h H0 σ S H e m _ fun v S1 H1 g1 r1 => by
    cases r1
    refine ⟨(n : Int), rfl, by omega, by omega, q _ S1 H1 g1 ?_⟩
    rw [Int.toNat_natCast]
    exact wk_r 0 n
def signD (x : Str) : List DV := x.cps.toList.map fun c => DV.str ⟨#[c]⟩
theorem wk_s {S : Hp} (x : Str) : WkD K (Its x) S (signD x) where
  stop := fun H e => by unfold signD; rw [List.length_map]; show x.cps.size ≤ x.cps.toList.length; rw [Array.length_toList]; exact Nat.le_refl _
  go := fun i H e hi => by unfold signD at hi; rw [List.length_map, Array.length_toList] at hi; exact hi
  yld := fun i H v H' y d hd S1 e e1 => by
    obtain ⟨rfl, c, hc, rfl⟩ := y
    unfold signD at hd
    rw [List.getElem?_map, Array.getElem?_toList, hc] at hd
    cases hd
    exact ⟨S1, Go.rf e1, .str _⟩
theorem iv_str {x : Str} (h : EvD K te ρ (.str x)) : IvD K (iStr te) ρ (signD x) := fun H0 σ S H e n R q =>
  h H0 σ S H e n _ fun v S1 H1 g1 r1 => by
    cases r1
    exact ⟨x, rfl, q _ S1 H1 g1 (wk_s x)⟩
end

/-! ### targets -/
def TgD (K : PySem.W.Frag) (g : TG) (is : List Nat) (d : DV) (ρ ρ' : Rho) : Prop := ∀ H0 σ S H v, Ex S H → En K H0 S H σ ρ → Rp K S v d → ∀ Q : L2.St → Hp → Prop,
  (∀ σ', En K H0 S H σ' ρ' → σ'.length = σ.length → (∀ j, j ∉ is → σ'[j]? = σ[j]?) → Q σ' H) → g v σ H Q
section
variable {K : PySem.W.Frag} {ρ ρ' ρ'' : Rho} {d : DV} {is js : List Nat}
theorem tg_name {i : Nat} : TgD K (gName i) [i] d ρ (ρ.set i (.val d)) := fun H0 σ S H v e n r Q q =>
  q _ (n.set r) (List.length_set ..) fun j hj => List.getElem?_set_ne (fun z => hj (by rw [z]; exact List.mem_singleton.mpr rfl))
def TgsD (K : PySem.W.Frag) (g : TGs) (is : List Nat) (ds : List DV) (ρ ρ' : Rho) : Prop := ∀ H0 σ S H vs, Ex S H → En K H0 S H σ ρ → RpA K S vs ds → ∀ Q : L2.St → Hp → Prop,
  (∀ σ', En K H0 S H σ' ρ' → σ'.length = σ.length → (∀ j, j ∉ is → σ'[j]? = σ[j]?) → Q σ' H) → g vs σ H Q
theorem tgs_nil : TgsD K gNil [] [] ρ ρ := fun H0 σ S H vs e n r Q q => by
  cases r
  exact ⟨rfl, q σ n rfl fun _ _ => rfl⟩
theorem tgs_cons {g : TG} {gs : TGs} {ds : List DV} (h : TgD K g is d ρ ρ') (hs : TgsD K gs js ds ρ' ρ'') : TgsD K (gCons g gs) (is ++ js) (d :: ds) ρ ρ'' := fun H0 σ S H vs e n r Q q => by
  cases r with
  | cons r1 r2 =>
    refine ⟨_, _, rfl, h H0 σ S H _ e n r1 _ fun σ1 n1 l1 f1 => hs H0 σ1 S H _ e n1 r2 _ fun σ2 n2 l2 f2 => q σ2 n2 (l2.trans l1) fun j hj => ?_⟩
    rw [f2 j (fun z => hj (List.mem_append_right _ z)), f1 j (fun z => hj (List.mem_append_left _ z))]
theorem tg_tup {gs : TGs} {ds : List DV} {n : Nat} (h : TgsD K gs is ds ρ ρ') (hl : ds.length = n) : TgD K (gTup K n gs) is (.tup ds) ρ ρ' := fun H0 σ S H v e m r Q q => by
  cases r with
  | tup s a => exact ⟨_, _, rfl, ex_t e s, by rw [a.len]; exact hl, h H0 σ S H _ e m a Q q⟩
end
theorem st_asgG {K : PySem.W.Frag} {ρ ρ' : Rho} {te : TE} {g : TG} {is : List Nat} {d : DV} {E : Po} (h : EvD K te ρ d) (hg : TgD K g is d ρ ρ') (q : E.nx ρ') : StD K (tAsg te g) ρ E := fun S0 H0 B σ S H D g0 b n o =>
  h H0 σ S H g0.sub n _ fun v S1 H1 g1 r1 => hg H0 σ S1 H1 v g1.sub (n.go g1) r1 _ fun σ' n' _ _ => o.nx _ _ S1 H1 q (g0.tr g1) (b.tr g1.s) n'
end PD

/-! Data: comprehensions, loops, lists of one's own. -/
namespace PD
open PySem PySem.Spec PyProof.Rows L2

theorem Go.chg {S H S' H' : Hp} {D : Addr} {o : HO} (g : Go S H S' H') (n : S' D = none) (m : H D = none) : Go S H S' (upd H' D o) :=
  ⟨g.s, g.h.off m, g.sub.off n, g.new⟩
theorem Go.frz {S H S' H' : Hp} {D : Addr} {o : HO} (g : Go S H S' H') (n : S' D = none) (m : H D = none) (h : H' D = some o) : Go S H (upd S' D o) H' :=
  ⟨g.s.tr (Ex.new n), g.h, fun a u q => by
    by_cases z : a = D
    · subst z
      rw [upd_same] at q
      rw [h]
      exact q
    · rw [upd_ne z] at q
      exact g.sub a u q, fun a u q k => by
    by_cases z : a = D
    · subst z
      exact m
    · rw [upd_ne z] at q
      exact g.new a u q k⟩
theorem Go.off {S H S' H' : Hp} {D : Addr} {o : HO} (g : Go S H S' H') (n : S D = none) (h : H D = some o) : S' D = none := by
  cases q : S' D with
  | none => rfl
  | some u =>
    have z := g.new D u q n
    rw [h] at z
    cases z
theorem wipe_get (σ : L2.St) (j : Nat) : ∀ vs : List Nat, (wipe σ vs)[j]? = if j ∈ vs then (if j < σ.length then some none else none) else σ[j]?
  | [] => by simp [wipe]
  | v :: vs => by
    have ih := wipe_get σ j vs
    show ((wipe σ vs).set v none)[j]? = _
    by_cases h : v = j
    · subst h
      rw [if_pos (List.mem_cons_self ..)]
      by_cases hl : v < σ.length
      · rw [if_pos hl, List.getElem?_set_self (by rw [wipe_length]; exact hl)]
      · rw [if_neg hl, List.getElem?_eq_none (by rw [List.length_set, wipe_length]; omega)]
    · rw [List.getElem?_set_ne h, ih]
      have e : (j ∈ v :: vs) = (j ∈ vs) := by
        rw [List.mem_cons]
        exact propext ⟨fun z => z.resolve_left (fun w => h w.symm), .inr⟩
      simp only [e]
theorem wipe_eq {σ σ2 : L2.St} {vs is : List Nat} (l : σ2.length = (wipe σ vs).length) (f : ∀ j, j ∉ is → σ2[j]? = (wipe σ vs)[j]?) (hs : ∀ j ∈ is, j ∈ vs) : wipe σ2 vs = wipe σ vs := by
  rw [wipe_length] at l
  refine List.ext_getElem? fun j => ?_
  rw [wipe_get, wipe_get, l]
  by_cases h : j ∈ vs
  · rw [if_pos h, if_pos h]
  · rw [if_neg h, if_neg h, f j (fun z => h (hs j z)), wipe_get, if_neg h]
/-- a reading that gives a list that nothing else names -/
def EvL (K : PySem.W.Frag) (te : TE) (ρ : Rho) (ds : List DV) : Prop := ∀ H0 σ S H, Ex S H → En K H0 S H σ ρ → ∀ Q : VK, (∀ p vs S' H', H p = none → Go S H S' H' → S' p = none → H' p = some (.lst vs) → RpA K S' vs ds → Q (.ref p) H') → te σ H Q
section
variable {K : PySem.W.Frag} {ρ : Rho} {te : TE} {ds : List DV} {d : DV}
theorem EvL.ev (h : EvL K te ρ ds) : EvD K te ρ (.lst ds) := fun H0 σ S H e n Q q =>
  h H0 σ S H e n Q fun p vs S' H' hp g nS hh r => q _ _ _ (g.frz nS hp hh) (.lst (.inl upd_same) (r.up (Ex.new nS)))
theorem el_lst {tx : TA} (h : EvA K tx ρ ds) (hl : ds.length ≤ 100000) : EvL K (tLst tx) ρ ds := fun H0 σ S H e n Q q =>
  h H0 σ S H e n _ fun vs S1 H1 g1 r1 => ⟨Nat.le_trans (by rw [r1.len]; exact hl) (by decide), fun p hp =>
    q p vs S1 _ (g1.h.free hp) (g1.chg (g1.sub.free hp) (g1.h.free hp)) (g1.sub.free hp) upd_same r1⟩
theorem take_more {α : Type} : ∀ {l : List α} {i : Nat} {x : α}, l[i]? = some x → l.take (i + 1) = l.take i ++ [x]
  | [], i, x, h => by simp at h
  | a :: l, 0, x, h => by
    have e : a = x := Option.some.inj h
    subst e
    rfl
  | a :: l, i + 1, x, h => by
    have ih := take_more (l := l) (i := i) (x := x) h
    show a :: l.take (i + 1) = a :: l.take i ++ [x]
    rw [ih]
    rfl
/-- [f d for d in ds if p d] -/
theorem el_lc {wi : TI} {g : TG} {tt : TT} {is vs : List Nat} (hi : IvD K wi ρ ds) (hlen : ds.length ≤ 100000) (his : ∀ j ∈ is, j ∈ vs) (ρ1 : DV → Rho) (p : DV → Bool) (f : DV → DV)
    (hg : ∀ d ∈ ds, TgD K g is d (wipeR ρ vs) (ρ1 d)) (ht : ∀ d ∈ ds, EvB K tt (ρ1 d) (p d)) (he : ∀ d ∈ ds, p d = true → EvD K te (ρ1 d) (f d)) : EvL K (tLc wi g tt te vs) ρ ((ds.filter p).map f) := fun H0 σ S H e n Q q =>
  hi H0 σ S H e n _ fun J S1 H1 g1 w1 => fun D hD => by
    have hDH : H D = none := g1.h.free hD
    refine ⟨fun i m H2 => m = ds.length - i ∧ i ≤ ds.length ∧ ∃ S2 acc, Go S1 H1 S2 H2 ∧ S2 D = none ∧ H2 D = some (.lst acc) ∧ RpA K S2 acc (((ds.take i).filter p).map f) ∧ acc.length ≤ i,
      ⟨_, rfl, Nat.zero_le _, S1, [], Go.side g1.sub (Ex.new hD) , g1.sub.free hD, upd_same, .nil, Nat.le_refl _⟩, ?_⟩
    rintro i m H2 ⟨rfl, hile, S2, acc, g2, nD, hD2, ra, hacc⟩
    by_cases hlt : i < ds.length
    · have hdi : ds[i]? = some ds[i] := List.getElem?_eq_getElem hlt
      have hmem : ds[i] ∈ ds := List.getElem_mem hlt
      have tk := take_more hdi
      refine .inr ⟨w1.go i H2 (g2.s.tr g2.sub) hlt, fun H' => ∃ S3 acc', Go S1 H1 S3 H' ∧ S3 D = none ∧ H' D = some (.lst acc') ∧ RpA K S3 acc' (((ds.take (i + 1)).filter p).map f) ∧ acc'.length ≤ i + 1,
        fun H' ⟨S3, acc', a, b, c, d, l⟩ => ⟨ds.length - (i + 1), by omega, rfl, hlt, S3, acc', a, b, c, d, l⟩, fun x H' y => ?_⟩
      obtain ⟨S3, g3, rx⟩ := w1.yld i H2 x H' y _ hdi S2 g2.s g2.sub
      have n3 := (((n.go g1).go g2).go g3).wipe vs
      refine hg _ hmem H0 (wipe σ vs) S3 H' x g3.sub n3 rx _ fun σ2 n2 l2 f2 => ⟨wipe_eq l2 f2 his, ?_⟩
      refine ht _ hmem H0 σ2 S3 H' g3.sub n2 _ fun S4 H4 g4 => ?_
      have hD4 : H4 D = some (.lst acc) := g4.h _ _ (g3.h _ _ hD2)
      have nD4 : S4 D = none := (g3.tr g4).off nD hD2
      cases hp : p ds[i] with
      | true =>
        rw [if_pos rfl]
        refine he _ hmem hp H0 σ2 S4 H4 g4.sub (n2.go g4) _ fun y S5 H5 g5 r5 => ⟨acc, g5.h _ _ hD4, Nat.lt_of_le_of_lt (Nat.le_trans hacc (Nat.le_of_lt hlt)) (Nat.lt_of_le_of_lt hlen (by decide)), S5, acc ++ [y], ?_, ?_, upd_same, ?_, ?_⟩
        · exact (g2.tr ((g3.tr g4).tr g5)).chg (g5.off nD4 hD4) hD
        · exact g5.off nD4 hD4
        · rw [tk, List.filter_append, List.map_append]
          have e1 : ([ds[i]].filter p).map f = [f ds[i]] := by simp [hp]
          rw [e1]
          exact (((ra.up g3.s).up g4.s).up g5.s).snoc r5
        · rw [List.length_append, List.length_singleton]
          omega
      | false =>
        rw [if_neg (by decide)]
        refine ⟨S4, acc, g2.tr (g3.tr g4), nD4, hD4, ?_, by omega⟩
        rw [tk, List.filter_append, List.map_append]
        have e1 : ([ds[i]].filter p).map f = [] := by simp [hp]
        rw [e1, List.append_nil]
        exact (ra.up g3.s).up g4.s
    · have e : i = ds.length := by omega
      subst e
      rw [List.take_length] at ra
      exact .inl ⟨w1.stop H2 (g2.s.tr g2.sub), q D acc S2 H2 hDH (g1.tr g2) nD hD2 ra⟩
def EV.hid : EV → EV
  | .ownD _ => .un | e => e
def EV.isOwn : EV → Bool
  | .ownD _ => true | _ => false
def noOwn (ρ : Rho) : Bool := ρ.all fun e => !e.isOwn
theorem noOwn_get {ρ : Rho} (h : noOwn ρ = true) {i : Nat} {e : EV} (hi : ρ[i]? = some e) : e.isOwn = false := by
  unfold noOwn at h
  rw [List.all_eq_true] at h
  have z := h e (List.mem_of_getElem? hi)
  simpa using z
theorem eb_yes : EvB K tYes ρ true := fun H0 σ S H e n Q q => q S H (Go.rf e)
end
end PD

/-! Data: for loops; what is done with lists of one's own. -/
namespace PD
open PySem PySem.Spec PyProof.Rows L2
section
variable {K : PySem.W.Frag} {ρ : Rho} {te tb : TE} {ts : TS} {ds es : List DV} {d : DV} {E : Po}
theorem st_for {wi : TI} {g : TG} {is : List Nat} (hi : IvD K wi ρ ds) (I : Nat → Rho → Prop) (h0 : I 0 ρ)
    (hs : ∀ i d ρ', ds[i]? = some d → I i ρ' → ∃ ρ'', TgD K g is d ρ' ρ'' ∧ StD K ts ρ'' { nx := I (i + 1), ct := I (i + 1), bk := E.nx, rt := E.rt }) (hd : ∀ ρ', I ds.length ρ' → E.nx ρ') : StD K (tFor wi g ts) ρ E := fun S0 H0 B σ S H D g0 b n o =>
  hi H0 σ S H g0.sub n _ fun J S1 H1 g1 w1 => by
    refine ⟨fun i m σ2 H2 => m = ds.length - i ∧ i ≤ ds.length ∧ ∃ ρ' S2, I i ρ' ∧ Go S0 H0 S2 H2 ∧ Ex S1 S2 ∧ En K H0 S2 H2 σ2 ρ', ⟨_, rfl, Nat.zero_le _, ρ, S1, h0, g0.tr g1, Ex.rf _, n.go g1⟩, ?_⟩
    rintro i m σ2 H2 ⟨rfl, hile, ρ', S2, hI, g2, e2, n2⟩
    by_cases hlt : i < ds.length
    · have hdi : ds[i]? = some ds[i] := List.getElem?_eq_getElem hlt
      refine .inr ⟨w1.go i H2 (e2.tr g2.sub) hlt, fun σ' H' => ∃ ρ' S2, I (i + 1) ρ' ∧ Go S0 H0 S2 H' ∧ Ex S1 S2 ∧ En K H0 S2 H' σ' ρ', fun σ' H' ⟨ρ', S2, a, b, c, d⟩ => ⟨ds.length - (i + 1), by omega, rfl, hlt, ρ', S2, a, b, c, d⟩, fun x H' y => ?_⟩
      obtain ⟨S3, g3, rx⟩ := w1.yld i H2 x H' y _ hdi S2 e2 g2.sub
      obtain ⟨ρ'', tg, bd⟩ := hs i _ ρ' hdi hI
      refine tg H0 σ2 S3 H' x g3.sub (n2.go g3) rx _ fun σ3 n3 _ _ => ?_
      refine bd S0 H0 S1 σ3 S3 H' _ (g2.tr g3) (e2.tr g3.s) n3 ⟨fun ρ5 σ5 S5 H5 q g5 b5 n5 => ⟨ρ5, S5, q, g5, b5, n5⟩, fun d v S5 H5 q g5 r5 => o.rt d v S5 H5 q g5 r5, fun ρ5 σ5 S5 H5 q g5 b5 n5 => o.nx ρ5 σ5 S5 H5 q g5 ((b.tr g1.s).tr b5) n5, fun ρ5 σ5 S5 H5 q g5 b5 n5 => ⟨ρ5, S5, q, g5, b5, n5⟩⟩
    · have e : i = ds.length := by omega
      subst e
      exact .inl ⟨w1.stop H2 (e2.tr g2.sub), o.nx ρ' σ2 S2 H2 (hd ρ' hI) g2 ((b.tr g1.s).tr e2) n2⟩
/-- x = a new list, kept as one's own -/
theorem st_asgL {i : Nat} (h : EvL K te ρ ds) (q : E.nx (ρ.set i (.own ds))) : StD K (tAsg te (gName i)) ρ E := fun S0 H0 B σ S H D g b n o =>
  h H0 σ S H g.sub n _ fun p vs S1 H1 hp g1 n1 h1 r1 => o.nx _ _ S1 H1 q (g.tr g1) (b.tr g1.s) ((n.go g1).setOwn (g.h.free hp) n1 h1 r1 fun j hj es' hes z => by
    obtain ⟨p', vs', e1, _, _, h2, _⟩ := n.ownD hes
    rw [e1] at z
    cases z
    rw [hp] at h2
    cases h2)
/-- x.append(e) -/
theorem st_append {i : Nat} (hi : ρ[i]? = some (.own ds)) (h : EvD K te ρ d) (hl : ds.length < 100000) (q : E.nx (ρ.set i (.own (ds ++ [d])))) : StD K (tDrop (tBM K "list" rAppend (tVar i) (tCons te tNil))) ρ E := fun S0 H0 B σ S H D g b n o => by
  obtain ⟨p, vs, hp, h0, hs, hh, r⟩ := n.own hi
  refine ⟨.ref p, hp, .inl ⟨rfl, vs, .inl (.inl hh)⟩, h H0 σ S H g.sub n _ fun v S1 H1 g1 r1 => ⟨p, vs, v, rfl, rfl, g1.h _ _ hh, Nat.lt_of_lt_of_le (by rw [r.len]; exact hl) (by decide), ?_⟩⟩
  have nS : S1 p = none := g1.off hs hh
  exact o.nx _ _ S1 _ q ((g.tr g1).chg nS h0) (b.tr g1.s) ((n.go g1).chg hi hp nS ((r.up g1.s).snoc r1))
end
section
variable {K : PySem.W.Frag} {ρ : Rho} {te : TE} {ds : List DV} {d : DV}
end
end PD

/-! Data: the rules by syntax. A piece of syntax is read by whatever reading is right for it (U..). -/
namespace PD
open PySem PySem.Spec PyProof.Rows L2

/-- the program, the module's part of the heap -/
structure Gb where
  P : Program
  w : World
  K : PySem.W.Frag
  mg : Str → Option Value
  base : Heap
/-- where one stands: room, names by slot, scope -/
structure Lc where
  k : Nat
  N : List Str
  sc : Scope
  fn : Str → Bool
  cb : Bool
  ex : Option (Addr × Value × Option Addr)
structure Of (g : Gb) (l : Lc) (X : Cx) : Prop where
  prog : X.prog = g.P
  w : X.w = g.w
  K : X.K = g.K
  mg : X.mg = g.mg
  base : X.base = g.base
  N : X.N = l.N
  sc : X.env.scope = l.sc
  fn : ∀ x, l.fn x = true → X.fn x = true
  calm : l.cb = true → X.calm = true
  room : l.cb = true → Room l.k X.A
  un : X.A.units + 16 * l.k + 200 < cLine
  po : l.cb = true → PassesOwn (model X.prog X.w) X.A X.env X.xe
  ex : ∀ a cls d, l.ex = some (a, cls, d) → ∃ (Y : Cx) (oe : Obj) (pn : List (Addr × Obj)), X = Y.suite a ((a, oe) :: pn) ∧ Zc cls d oe ∧ ∃ vs, oe.data = .fields vs
theorem Of.vis {g : Gb} {l : Lc} {X : Cx} (o : Of g l X) {x : Str} (h : Vis l.sc x) : Vis X.env.scope x := by rw [o.sc]; exact h
abbrev GlN (l : Lc) (n : Str) : Prop := l.sc.names.lookup n = some .globalImplicit
theorem Of.gl {g : Gb} {l : Lc} {X : Cx} (o : Of g l X) {x : Str} (h : GlN l x) : Gl X x := by
  show X.env.scope.names.lookup x = _
  rw [o.sc]
  exact h
theorem Of.u64 {g : Gb} {l : Lc} {X : Cx} (o : Of g l X) : X.A.units + 64 < cLine := by
  have := o.un
  omega

section
variable (g : Gb) (l : Lc)
def UE (e : Expr) : TE := fun σ H Q => ∃ t, (∀ X, Of g l X → PE X e t) ∧ t σ H Q
def UT (e : Expr) : TT := fun σ H Q => ∃ t, (∀ X, Of g l X → PT X e t) ∧ t σ H Q
def UW (e : Expr) : TT := fun σ H Q => ∃ t, (∀ X, Of g l X → PW X e t) ∧ t σ H Q
def UA (es : List Expr) : TA := fun σ H Q => ∃ t, (∀ X, Of g l X → PA X es t) ∧ t σ H Q
def UP (e : Option Expr) : TO := fun σ H Q => ∃ t, (∀ X, Of g l X → PO X e t) ∧ t σ H Q
def US (st : Stmt) : TS := fun D σ H => ∃ t, (∀ X, Of g l X → PS X st t) ∧ t D σ H
def USs (st : List Stmt) : TS := fun D σ H => ∃ t, (∀ X, Of g l X → PSs X st t) ∧ t D σ H
def UI (tg iter : Expr) : TI := fun σ H R => ∃ t, (∀ X, Of g l X → PI X tg iter t) ∧ t σ H R
def UTs (ifs : List Expr) : TT := fun σ H Q => ∃ t, (∀ X, Of g l X → PTs X ifs t) ∧ t σ H Q
def DE (e : Expr) (ρ : Rho) (d : DV) : Prop := EvD g.K (UE g l e) ρ d
def DT (e : Expr) (ρ : Rho) (b : Bool) : Prop := EvB g.K (UT g l e) ρ b
def DW (e : Expr) (ρ : Rho) (b : Bool) : Prop := EvB g.K (UW g l e) ρ b
def DA (es : List Expr) (ρ : Rho) (ds : List DV) : Prop := EvA g.K (UA g l es) ρ ds
def DP (e : Option Expr) (ρ : Rho) (o : Option Int) : Prop := EvO g.K (UP g l e) ρ o
def DI (tg iter : Expr) (ρ : Rho) (ds : List DV) : Prop := IvD g.K (UI g l tg iter) ρ ds
def DL (e : Expr) (ρ : Rho) (ds : List DV) : Prop := EvL g.K (UE g l e) ρ ds
def DTs (es : List Expr) (ρ : Rho) (b : Bool) : Prop := EvB g.K (UTs g l es) ρ b
def DS (st : Stmt) (ρ : Rho) (E : Po) : Prop := StD g.K (US g l st) ρ E
def DSs (st : List Stmt) (ρ : Rho) (E : Po) : Prop := StD g.K (USs g l st) ρ E
end
section
variable {g : Gb} {l : Lc} {X : Cx}
theorem UE.pe (o : Of g l X) (e : Expr) : PE X e (UE g l e) := ⟨fun pins s σ H Q I ⟨t, h, q⟩ => (h X o).run pins s σ H Q I q⟩
theorem UT.pt (o : Of g l X) (e : Expr) : PT X e (UT g l e) := ⟨fun pins s σ H Q I ⟨t, h, q⟩ => (h X o).run pins s σ H Q I q⟩
theorem UW.pw (o : Of g l X) (e : Expr) : PW X e (UW g l e) := ⟨fun wh pins s σ H Q I ⟨t, h, q⟩ => (h X o).run wh pins s σ H Q I q⟩
theorem UA.pa (o : Of g l X) (es : List Expr) : PA X es (UA g l es) := ⟨fun pos pins s σ H Q I ⟨t, h, q⟩ => (h X o).run pos pins s σ H Q I q⟩
theorem UP.po (o : Of g l X) (e : Option Expr) : PO X e (UP g l e) := ⟨fun pins s σ H Q I ⟨t, h, q⟩ => (h X o).run pins s σ H Q I q⟩
theorem US.ps (o : Of g l X) (st : Stmt) : PS X st (US g l st) := ⟨fun pins s σ H D I ⟨t, h, q⟩ => (h X o).run pins s σ H D I q⟩
theorem USs.pss (o : Of g l X) (st : List Stmt) : PSs X st (USs g l st) := ⟨fun pins s σ H D I ⟨t, h, q⟩ => (h X o).run pins s σ H D I q⟩
theorem UI.pi (o : Of g l X) (tg iter : Expr) : PI X tg iter (UI g l tg iter) := ⟨fun pins s σ H R I ⟨t, h, q⟩ => (h X o).run pins s σ H R I q⟩
theorem UTs.pts (o : Of g l X) (ifs : List Expr) : PTs X ifs (UTs g l ifs) := ⟨fun pins s σ H Q I ⟨t, h, q⟩ => (h X o).run pins s σ H Q I q⟩
end
section
variable {g : Gb} {l : Lc} {ρ ρ' : Rho} {a b c e : Expr} {es rest : List Expr} {da db d : DV} {pos : Pos} {ds : List DV} {x y : Bool}
theorem DE.by (t : TE) (h : ∀ X, Of g l X → PE X e t) (v : EvD g.K t ρ d) : DE g l e ρ d := fun H0 σ S H ex n Q q => ⟨t, h, v H0 σ S H ex n Q q⟩
theorem DL.by (t : TE) (h : ∀ X, Of g l X → PE X e t) (v : EvL g.K t ρ ds) : DL g l e ρ ds := fun H0 σ S H ex n Q q => ⟨t, h, v H0 σ S H ex n Q q⟩
theorem DT.by (t : TT) (h : ∀ X, Of g l X → PT X e t) (v : EvB g.K t ρ x) : DT g l e ρ x := fun H0 σ S H ex n Q q => ⟨t, h, v H0 σ S H ex n Q q⟩
theorem DW.by (t : TT) (h : ∀ X, Of g l X → PW X e t) (v : EvB g.K t ρ x) : DW g l e ρ x := fun H0 σ S H ex n Q q => ⟨t, h, v H0 σ S H ex n Q q⟩
theorem DA.by (t : TA) (h : ∀ X, Of g l X → PA X es t) (v : EvA g.K t ρ ds) : DA g l es ρ ds := fun H0 σ S H ex n Q q => ⟨t, h, v H0 σ S H ex n Q q⟩
theorem DI.by {tg : Expr} (t : TI) (h : ∀ X, Of g l X → PI X tg e t) (v : IvD g.K t ρ ds) : DI g l tg e ρ ds := fun H0 σ S H ex n Q q => ⟨t, h, v H0 σ S H ex n Q q⟩
theorem DTs.by (t : TT) (h : ∀ X, Of g l X → PTs X es t) (v : EvB g.K t ρ x) : DTs g l es ρ x := fun H0 σ S H ex n Q q => ⟨t, h, v H0 σ S H ex n Q q⟩
theorem DS.by {st : Stmt} {E : Po} (t : TS) (h : ∀ X, Of g l X → PS X st t) (v : StD g.K t ρ E) : DS g l st ρ E := fun S0 H0 B σ S H D g0 b n o => ⟨t, h, v S0 H0 B σ S H D g0 b n o⟩
theorem DSs.by {st : List Stmt} {E : Po} (t : TS) (h : ∀ X, Of g l X → PSs X st t) (v : StD g.K t ρ E) : DSs g l st ρ E := fun S0 H0 B σ S H D g0 b n o => ⟨t, h, v S0 H0 B σ S H D g0 b n o⟩
theorem DE.is {d' : DV} (h : DE g l e ρ d) (q : d = d') : DE g l e ρ d' := by rw [← q]; exact h
theorem DT.is {x' : Bool} (h : DT g l e ρ x) (q : x = x') : DT g l e ρ x' := by rw [← q]; exact h
theorem DL.de (h : DL g l e ρ ds) : DE g l e ρ (.lst ds) := EvL.ev h

/-! names, constants -/
theorem de_v (i : Nat) {n : Str} (h : ρ[i]? = some (.val d) := by rfl) (hN : l.N[i]? = some n := by rfl) (hv : Vis l.sc n := by first | exact Or.inl rfl | exact Or.inr (Or.inl rfl) | exact Or.inr (Or.inr rfl))
    (hd : (n == ("__debug__" : Str)) = false := by decide) (hcd : (n == ("__classdict__" : Str)) = false := by decide) : DE g l (.Name n pos) ρ d :=
  DE.by (tVar i) (fun X o => pe_var (by rw [o.N]; exact hN) (o.vis hv) hd hcd) (ev_var h)
theorem de_int {i : Int} {j} : DE g l (.Constant (.int i) j pos) ρ (.int i) := DE.by _ (fun X o => pe_int) (ev_c fun S => .int i)
theorem de_bl {i : Bool} {j} : DE g l (.Constant (.bool i) j pos) ρ (.bl i) := DE.by _ (fun X o => pe_bl) (ev_c fun S => .bl i)
theorem de_non {j} : DE g l (.Constant .none j pos) ρ .non := DE.by _ (fun X o => pe_non) (ev_c fun S => .non)
theorem de_str {i : Str} {j} : DE g l (.Constant (.str i) j pos) ρ (.str i) := DE.by _ (fun X o => pe_str) (ev_c fun S => .str i)
/-- a constant of the module -/
theorem de_gl {n : Str} {v : V} {u : Value} (hm : g.mg n = some u) (r : RelV v u) (hr : ∀ S, Rp g.K S v d) (hg : GlN l n := by rfl) (hd : (n == ("__debug__" : Str)) = false := by decide) : DE g l (.Name n pos) ρ d :=
  DE.by _ (fun X o => pe_glob (o.gl hg) (by rw [o.mg]; exact hm) r hd) (ev_c hr)

/-! operators -/
theorem de_op {op : Operator} {r : R2} (ho : ∀ X, Of g l X → OpR X (binaryOp op) r) (ha : DE g l a ρ da) (hb : DE g l b ρ db) (hr : OpD g.K r da db d) : DE g l (.BinOp a op b pos) ρ d :=
  DE.by _ (fun X o => pe_op (ho X o) (UE.pe o a) (UE.pe o b)) (ev_op ha hb hr)
theorem de_add {i j : Int} (ha : DE g l a ρ (.int i)) (hb : DE g l b ρ (.int j)) : DE g l (.BinOp a .Add b pos) ρ (.int (i + j)) := de_op (fun X o => op_add) ha hb (od_I0 fun S => .int _)
theorem de_sub {i j : Int} (ha : DE g l a ρ (.int i)) (hb : DE g l b ρ (.int j)) : DE g l (.BinOp a .Sub b pos) ρ (.int (i - j)) := de_op (fun X o => op_sub) ha hb (od_I0 fun S => .int _)
theorem de_mul {i j : Int} (h : CMul i j) (ha : DE g l a ρ (.int i)) (hb : DE g l b ρ (.int j)) : DE g l (.BinOp a .Mult b pos) ρ (.int (i * j)) := de_op (fun X o => op_mul) ha hb (od_I h fun S => .int _)
theorem de_fdiv {i j : Int} (h : CDiv i j) (ha : DE g l a ρ (.int i)) (hb : DE g l b ρ (.int j)) : DE g l (.BinOp a .FloorDiv b pos) ρ (.int (i / j)) := de_op (fun X o => op_fdiv) ha hb (od_I h fun S => .int _)
theorem de_mod {i j : Int} (h : 0 < j) (ha : DE g l a ρ (.int i)) (hb : DE g l b ρ (.int j)) : DE g l (.BinOp a .Mod b pos) ρ (.int (i % j)) := de_op (fun X o => op_mod) ha hb (od_I h fun S => .int _)
theorem de_addS {i j : Str} (h : i.length + j.length ≤ 100000) (ha : DE g l a ρ (.str i)) (hb : DE g l b ρ (.str j)) : DE g l (.BinOp a .Add b pos) ρ (.str (i ++ j)) := de_op (fun X o => op_add_str) ha hb (od_addS h)
theorem de_catT {i j : List DV} (h : i.length + j.length ≤ 100000) (ha : DE g l a ρ (.tup i)) (hb : DE g l b ρ (.tup j)) : DE g l (.BinOp a .Add b pos) ρ (.tup (i ++ j)) := de_op (fun X o => by have := op_catA (X := X); rw [o.K] at this; exact this) ha hb (od_catT h)
theorem de_catL {i j : List DV} (h : i.length + j.length ≤ 100000) (ha : DE g l a ρ (.lst i)) (hb : DE g l b ρ (.lst j)) : DE g l (.BinOp a .Add b pos) ρ (.lst (i ++ j)) := de_op (fun X o => op_catR) ha hb (od_catL h)
theorem de_neg {i : Int} (ha : DE g l a ρ (.int i)) : DE g l (.UnaryOp .USub a pos) ρ (.int (-i)) :=
  DE.by _ (fun X o => pe_un un_neg (UE.pe o a)) (ev_un ha fun S H x e r Q q => by cases r; exact ⟨i, rfl, q _ S H (Go.rf e) (.int _)⟩)

/-! comparisons: as a value, as a test -/
theorem de_cmp {op : CmpOp} {r : R2} (ho : ∀ X, Of g l X → OpR X (compareOp op) r) (hr : OpD g.K r da db d) (ha : DE g l a ρ da) (hb : DE g l b ρ db) (hm : behindInMarks op b = false := by first | exact nomark _ | rfl) : DE g l (.Compare a [op] [b] pos) ρ d :=
  DE.by _ (fun X o => pe_cmpR (ho X o) (UE.pe o a) (UE.pe o b) hm) (ev_op ha hb hr)
theorem dt_cmp {op : CmpOp} {r : R2} (ho : ∀ X, Of g l X → OpR X (compareOp op) r) (hr : OpD g.K r da db (.bl x)) (ha : DE g l a ρ da) (hb : DE g l b ρ db) (hm : behindInMarks op b = false := by first | exact nomark _ | rfl) : DT g l (.Compare a [op] [b] pos) ρ x :=
  DT.by _ (fun X o => pt_cmpR (ho X o) (UE.pe o a) (UE.pe o b) hm) (eb_test (ev_op ha hb hr))
theorem ev_chain {K : PySem.W.Frag} {r r' : R2} {ta tb tc : TE} {d1 d2 d3 : DV} {x y : Bool} (h1 : EvD K ta ρ d1) (h2 : EvD K tb ρ d2) (hr : OpD K r d1 d2 (.bl x)) (h3 : x = true → EvD K tc ρ d3) (hr' : x = true → OpD K r' d2 d3 (.bl y)) : EvD K (tChain r r' ta tb tc) ρ (.bl (x && y)) := fun H0 σ S H e n Q q =>
  h1 H0 σ S H e n _ fun v1 S1 H1 g1 r1 => h2 H0 σ S1 H1 g1.sub (n.go g1) _ fun v2 S2 H2 g2 r2 => hr S2 H2 _ _ g2.sub (r1.up g2.s) r2 _ fun v3 S3 H3 g3 r3 => by
    cases r3
    refine ⟨x, rfl, ?_⟩
    cases x with
    | true =>
      rw [if_pos rfl]
      exact h3 rfl H0 σ S3 H3 g3.sub (((n.go g1).go g2).go g3) _ fun v4 S4 H4 g4 r4 => hr' rfl S4 H4 _ _ g4.sub ((r2.up g3.s).up g4.s) r4 Q fun v5 S5 H5 g5 r5 => q v5 S5 H5 ((((g1.tr g2).tr g3).tr g4).tr g5) r5
    | false =>
      rw [if_neg (by decide)]
      exact q _ S3 H3 ((g1.tr g2).tr g3) (.bl _)
theorem de_chain {op op' : CmpOp} {r r' : R2} {dc : DV} (ho : ∀ X, Of g l X → OpR X (compareOp op) r) (ho' : ∀ X, Of g l X → OpR X (compareOp op') r') (hr : OpD g.K r da db (.bl x)) (hr' : x = true → OpD g.K r' db dc (.bl y)) (ha : DE g l a ρ da) (hb : DE g l b ρ db) (hc : x = true → DE g l c ρ dc)
    (hm : lastMarks [op, op'] [b, c] = false := by with_unfolding_all rfl) : DE g l (.Compare a [op, op'] [b, c] pos) ρ (.bl (x && y)) :=
  DE.by _ (fun X o => pe_chain (ho X o) (ho' X o) (UE.pe o a) (UE.pe o b) (UE.pe o c) hm) (ev_chain ha hb hr hc hr')
theorem dt_chain {op op' : CmpOp} {r r' : R2} {dc : DV} (ho : ∀ X, Of g l X → OpR X (compareOp op) r) (ho' : ∀ X, Of g l X → OpR X (compareOp op') r') (hr : OpD g.K r da db (.bl x)) (hr' : x = true → OpD g.K r' db dc (.bl y)) (ha : DE g l a ρ da) (hb : DE g l b ρ db) (hc : x = true → DE g l c ρ dc)
    (hm : lastMarks [op, op'] [b, c] = false := by with_unfolding_all rfl) : DT g l (.Compare a [op, op'] [b, c] pos) ρ (x && y) :=
  DT.by _ (fun X o => pt_chain (ho X o) (ho' X o) (UE.pe o a) (UE.pe o b) (UE.pe o c) hm) (eb_test (ev_chain ha hb hr hc hr'))

/-! truth -/
theorem de_one {op} (h : DE g l a ρ d) : DE g l (.BoolOp op [a] pos) ρ d := DE.by _ (fun X o => pe_one (UE.pe o a)) h
theorem de_and (h1 : DE g l a ρ (.bl x)) (h2 : x = true → DE g l (.BoolOp .And (b :: rest) pos) ρ (.bl y)) : DE g l (.BoolOp .And (a :: b :: rest) pos) ρ (.bl (x && y)) := DE.by _ (fun X o => pe_and (UE.pe o a) (UE.pe o _)) (ev_and h1 h2)
theorem de_not (h : DE g l a ρ (.bl x)) : DE g l (.UnaryOp .Not a pos) ρ (.bl (!x)) := DE.by _ (fun X o => pe_not (UE.pe o a)) (ev_not h)
theorem de_if (h : DT g l c ρ x) (h1 : x = true → DE g l a ρ d) (h2 : x = false → DE g l b ρ d) : DE g l (.IfExp c a b pos) ρ d := DE.by _ (fun X o => pe_ifExp (UT.pt o c) (UE.pe o a) (UE.pe o b)) (ev_if h h1 h2)
theorem dt_e (h : DE g l e ρ (.bl x)) (he : ∀ env whole, isTrue e env whole = (do let v ← whole; standAt e.pos; holding [v] (truthy v)) := by intro _ _; rfl) : DT g l e ρ x := DT.by _ (fun X o => pt_val (UE.pe o e) (he _)) (eb_val h)
theorem dt_not (h : DT g l a ρ x) : DT g l (.UnaryOp .Not a pos) ρ (!x) := DT.by _ (fun X o => pt_not (UT.pt o a)) (eb_not h)
theorem dt_w (h : DW g l e ρ x) : DT g l e ρ x := DT.by _ (fun X o => (UW.pw o e).pt) h
theorem dw_and1 (h : DT g l a ρ x) : DW g l (.BoolOp .And [a] pos) ρ x := DW.by _ (fun X o => pw_and1 (UT.pt o a)) h
theorem dw_or1 (h : DT g l a ρ x) : DW g l (.BoolOp .Or [a] pos) ρ x := DW.by _ (fun X o => pw_or1 (UT.pt o a)) h
theorem dw_and (h1 : DT g l a ρ x) (h2 : x = true → DW g l (.BoolOp .And (b :: rest) pos) ρ y) : DW g l (.BoolOp .And (a :: b :: rest) pos) ρ (x && y) := DW.by _ (fun X o => pw_and (UT.pt o a) (UW.pw o _)) (eb_and h1 h2)
theorem dw_or (h1 : DT g l a ρ x) (h2 : x = false → DW g l (.BoolOp .Or (b :: rest) pos) ρ y) : DW g l (.BoolOp .Or (a :: b :: rest) pos) ρ (x || y) := DW.by _ (fun X o => pw_or (UT.pt o a) (UW.pw o _)) (eb_or h1 h2)

/-! displays, subscripts, arguments -/
theorem da_nil : DA g l [] ρ [] := DA.by _ (fun X o => pa_nil) ea_nil
theorem da_cons (h : DE g l e ρ d) (hr : DA g l es ρ ds) (hs : ∀ env, starEach (e :: es) env = (false, eval e env) :: starEach es env := by intro _; rfl) : DA g l (e :: es) ρ (d :: ds) :=
  DA.by _ (fun X o => pa_cons (UE.pe o e) (UA.pa o es) (hs _)) (ea_cons h hr)
theorem de_tup {x1} (h : DA g l es ρ ds) (hl : ds.length ≤ 100000 := by (first | decide | (simp; done) | omega)) : DE g l (.Tuple es x1 pos) ρ (.tup ds) := DE.by _ (fun X o => pe_tup (UA.pa o es)) (ev_tup h hl)
theorem dl_lst (h : DA g l es ρ ds) (hl : ds.length ≤ 100000 := by (first | decide | (simp; done) | omega)) : DL g l (.List es pos) ρ ds := DL.by _ (fun X o => pe_lst (UA.pa o es)) (el_lst h hl)
theorem de_ixT {xs : List DV} {i : Int} (h : atI xs i = some d) (ha : DE g l a ρ (.tup xs)) (hb : DE g l b ρ (.int i)) (hs : PlainIx b := by exact fun _ _ => rfl) : DE g l (.Subscript a b pos) ρ d :=
  DE.by _ (fun X o => pe_ix (by have := ix_tup (X := X); rw [o.K] at this; exact this) (UE.pe o a) (UE.pe o b) hs) (ev_op ha hb (od_ixT h))
theorem de_ixL {xs : List DV} {i : Int} (h : atI xs i = some d) (ha : DE g l a ρ (.lst xs)) (hb : DE g l b ρ (.int i)) (hs : PlainIx b := by exact fun _ _ => rfl) : DE g l (.Subscript a b pos) ρ d :=
  DE.by _ (fun X o => pe_ix (by have := ix_list (X := X); rw [o.K] at this; exact this) (UE.pe o a) (UE.pe o b) hs) (ev_op ha hb (od_ixL h))
theorem dp_none : DP g l none ρ none := fun H0 σ S H ex n Q q => ⟨tNoPart, fun X o => po_none, eo_none H0 σ S H ex n Q q⟩
theorem dp_some {i : Int} (h : DE g l e ρ (.int i)) : DP g l (some e) ρ (some i) := fun H0 σ S H ex n Q q => ⟨_, fun X o => po_some (UE.pe o e), eo_some h H0 σ S H ex n Q q⟩
theorem de_slT {xs : List DV} {lo hi : Option Expr} {i j : Option Int} {p2 : Pos} (ha : DE g l e ρ (.tup xs)) (h1 : DP g l lo ρ i) (h2 : DP g l hi ρ j) : DE g l (.Subscript e (.Slice lo hi none p2) pos) ρ (.tup (cutG xs i j)) :=
  DE.by _ (fun X o => pe_slice (by have := sl_tupA (X := X); rw [o.K] at this; exact this) (UE.pe o e) (UP.po o lo) (UP.po o hi)) (ev_sl ha h1 h2 sd_tup)
theorem de_slL {xs : List DV} {lo hi : Option Expr} {i j : Option Int} {p2 : Pos} (ha : DE g l e ρ (.lst xs)) (h1 : DP g l lo ρ i) (h2 : DP g l hi ρ j) : DE g l (.Subscript e (.Slice lo hi none p2) pos) ρ (.lst (cutG xs i j)) :=
  DE.by _ (fun X o => pe_slice (by have := sl_list (X := X); rw [o.K] at this; exact this) (UE.pe o e) (UP.po o lo) (UP.po o hi)) (ev_sl ha h1 h2 sd_lst)
theorem de_slF {xs : List DV} {lo hi : Option Expr} {i j : Option Int} {p2 : Pos} (ha : DE g l e ρ (.frz xs)) (h1 : DP g l lo ρ i) (h2 : DP g l hi ρ j) : DE g l (.Subscript e (.Slice lo hi none p2) pos) ρ (.lst (cutG xs i j)) :=
  DE.by _ (fun X o => pe_slice (by have := sl_list (X := X); rw [o.K] at this; exact this) (UE.pe o e) (UP.po o lo) (UP.po o hi)) (ev_sl ha h1 h2 sd_frz)
theorem de_slS {z : Str} {lo hi : Option Expr} {i j : Option Int} {p2 : Pos} (hz : z.length ≤ 100000) (ha : DE g l e ρ (.str z)) (h1 : DP g l lo ρ i) (h2 : DP g l hi ρ j) : DE g l (.Subscript e (.Slice lo hi none p2) pos) ρ (.str (cutS z i j)) :=
  DE.by _ (fun X o => pe_slice sl_str (UE.pe o e) (UP.po o lo) (UP.po o hi)) (ev_sl ha h1 h2 (sd_str hz))

/-! calls -/
/-- a def of the module that is known: at level k it does R -/
structure Fn (g : Gb) (k : Nat) (n : Str) (R : List DV → DV → Prop) : Prop where
  ex : ∃ f fd ps, FnOk g.P g.w g.K g.mg g.base CX0 k f fd ps (spR g.K R) ∧ g.mg n = some (.ref f) ∧ PySem.W.keepIn g.K (.ref f) = true ∧ Binds g.K fd ps []
theorem de_call {k : Nat} {n : Str} {p : Pos} {R : List DV → DV → Prop} (F : Fn g k n R) (ha : DA g l (e :: es) ρ ds) (hR : R ds d) (hk : k ≤ l.k := by decide) (hg : GlN l n := by rfl) (hdb : (n == ("__debug__" : Str)) = false := by decide)
    (he : ∀ env, starEach (e :: es) env = (false, eval e env) :: starEach es env := by intro _; rfl) (hpl : ∀ env, (backTo pos (starEach es env)).any (·.1) = false := by intro _; rfl) (hcl : l.cb = true := by rfl) : DE g l (.Call (.Name n p) (e :: es) [] pos) ρ d := by
  obtain ⟨f, fd, ps, ok, hm, hkp, hb⟩ := F.ex
  refine DE.by (tCall (spR g.K R) [] E0 (UA g l (e :: es))) (fun X o => ?_) (ev_call ha hR)
  exact pe_call (CX := CX0) (k := k) (f := f) (fd := fd) (ps := ps) (ds := []) (by rw [o.prog, o.w, o.K, o.mg, o.base]; exact ok) ((o.room hcl).mono hk) (o.gl hg) (by rw [o.mg]; exact hm) (by rw [o.K]; exact hkp) (by rw [o.K]; exact hb) .nil pass0 (UA.pa o _) hdb (he _) (hpl _)
theorem de_cb {n : Str} {id : String} {p : Pos} {r : List V → Hp → VK → Prop} (hc : ∀ X, Of g l X → CallR X (.builtin id) r) (hm : g.mg n = none) (hv : bootBuiltins n = some (.builtin id)) (hr : CaD g.K r ds d) (ha : DA g l (e :: es) ρ ds)
    (hg : GlN l n := by rfl) (hn : n ≠ "__name__" := by decide) (hdb : (n == ("__debug__" : Str)) = false := by decide)
    (he : ∀ env, starEach (e :: es) env = (false, eval e env) :: starEach es env := by intro _; rfl) (hpl : ∀ env, (backTo pos (starEach es env)).any (·.1) = false := by intro _; rfl) : DE g l (.Call (.Name n p) (e :: es) [] pos) ρ d :=
  DE.by _ (fun X o => pe_callB (hc X o) (o.gl hg) (by rw [o.mg]; exact hm) hv (UA.pa o _) hn hdb (he _) (hpl _)) (ev_cb ha hr)
theorem de_ct {n : Str} {T : String} {p : Pos} {r : List V → Hp → VK → Prop} (hc : ∀ X, Of g l X → CallR X (.type T) r) (hm : g.mg n = none) (hv : bootBuiltins n = some (.type T)) (hr : CaD g.K r ds d) (ha : DA g l (e :: es) ρ ds)
    (hg : GlN l n := by rfl) (hn : n ≠ "__name__" := by decide) (hdb : (n == ("__debug__" : Str)) = false := by decide)
    (he : ∀ env, starEach (e :: es) env = (false, eval e env) :: starEach es env := by intro _; rfl) (hpl : ∀ env, (backTo pos (starEach es env)).any (·.1) = false := by intro _; rfl) : DE g l (.Call (.Name n p) (e :: es) [] pos) ρ d :=
  DE.by _ (fun X o => pe_callTy (hc X o) (o.gl hg) (by rw [o.mg]; exact hm) hv (UA.pa o _) hn hdb (he _) (hpl _)) (ev_cb ha hr)
theorem de_len {p : Pos} (hm : g.mg "len" = none) (hi : da.items = some ds) (h : DE g l e ρ da) (hg : GlN l "len" := by rfl) (hs : ∀ env, starEach [e] env = [(false, eval e env)] := by intro _; rfl) : DE g l (.Call (.Name "len" p) [e] [] pos) ρ (.int ds.length) :=
  de_cb (r := rLenX g.K) (fun X o => by have := call_len_seq (X := X); rw [o.K] at this; exact this) hm boot_len (cd_len hi) (da_cons h da_nil (by intro env; rw [hs env]; rfl)) hg (by decide) (by decide) (by intro env; rw [hs env]; rfl) (by intro env; rfl)
theorem de_lenS {p : Pos} {z : Str} (hm : g.mg "len" = none) (hz : z.length ≤ 100000) (h : DE g l e ρ (.str z)) (hg : GlN l "len" := by rfl) (hs : ∀ env, starEach [e] env = [(false, eval e env)] := by intro _; rfl) : DE g l (.Call (.Name "len" p) [e] [] pos) ρ (.int z.length) :=
  de_cb (r := rLenT) (fun X o => call_len_str) hm boot_len (cd_lenS hz) (da_cons h da_nil (by intro env; rw [hs env]; rfl)) hg (by decide) (by decide) (by intro env; rw [hs env]; rfl) (by intro env; rfl)
theorem de_all {p : Pos} {bs : List Bool} (hm : g.mg "all" = none) (h : DE g l e ρ (.lst (bs.map DV.bl))) (hg : GlN l "all" := by rfl) (hs : ∀ env, starEach [e] env = [(false, eval e env)] := by intro _; rfl) (hcl : l.cb = true := by rfl) : DE g l (.Call (.Name "all" p) [e] [] pos) ρ (.bl (bs.all id)) :=
  de_cb (fun X o => by have := cr_all (X := X) (o.calm hcl); rw [o.K] at this; exact this) hm (by decide +kernel) cd_all (da_cons h da_nil (by intro env; rw [hs env]; rfl)) hg (by decide) (by decide) (by intro env; rw [hs env]; rfl) (by intro env; rfl)
theorem de_sum {p : Pos} {ns : List Int} (hm : g.mg "sum" = none) (h : DE g l e ρ (.lst (ns.map DV.int))) (hg : GlN l "sum" := by rfl) (hs : ∀ env, starEach [e] env = [(false, eval e env)] := by intro _; rfl) (hcl : l.cb = true := by rfl) : DE g l (.Call (.Name "sum" p) [e] [] pos) ρ (.int ns.sum) :=
  de_cb (fun X o => by have := cr_sum (X := X) (o.calm hcl); rw [o.K] at this; exact this) hm (by decide +kernel) cd_sum (da_cons h da_nil (by intro env; rw [hs env]; rfl)) hg (by decide) (by decide) (by intro env; rw [hs env]; rfl) (by intro env; rfl)
theorem de_tupleOf {p : Pos} (hm : g.mg "tuple" = none) (hi : da.items = some ds) (h : DE g l e ρ da) (hg : GlN l "tuple" := by rfl) (hs : ∀ env, starEach [e] env = [(false, eval e env)] := by intro _; rfl) : DE g l (.Call (.Name "tuple" p) [e] [] pos) ρ (.tup ds) :=
  de_ct (r := rTupX g.K) (fun X o => by have := call_tuple_of (X := X); rw [o.K] at this; exact this) hm (by decide +kernel) (cd_tuple hi) (da_cons h da_nil (by intro env; rw [hs env]; rfl)) hg (by decide) (by decide) (by intro env; rw [hs env]; rfl) (by intro env; rfl)
theorem de_intOf {p : Pos} {i : Int} (hm : g.mg "int" = none) (h : DE g l e ρ (.int i)) (hg : GlN l "int" := by rfl) (hs : ∀ env, starEach [e] env = [(false, eval e env)] := by intro _; rfl) : DE g l (.Call (.Name "int" p) [e] [] pos) ρ (.int i) :=
  de_ct (r := rInt1) (fun X o => call_int1) hm (by decide +kernel) cd_int (da_cons h da_nil (by intro env; rw [hs env]; rfl)) hg (by decide) (by decide) (by intro env; rw [hs env]; rfl) (by intro env; rfl)
/-- isinstance(x, T), T a built-in type -/
theorem de_isi {p p2 : Pos} {n : Str} {T t : String} (hm : g.mg "isinstance" = none) (hmT : g.mg n = none) (hv : bootBuiltins n = some (.type T)) (hk : da.kind = some t) (hb : kitB t T = some x) (h : DE g l e ρ da) (hg : GlN l "isinstance" := by rfl) (hgT : GlN l n := by rfl)
    (hn : n ≠ "__name__" := by decide) (hdb : (n == ("__debug__" : Str)) = false := by decide)
    (hs : ∀ env, starEach (e :: [.Name n p2]) env = (false, eval e env) :: starEach [.Name n p2] env := by intro _; rfl) : DE g l (.Call (.Name "isinstance" p) (e :: [.Name n p2]) [] pos) ρ (.bl x) :=
  DE.by (tIsi g.K (UE g l e) T) (fun X o => by
    have := call_isi (X := X)
    rw [o.K] at this
    exact pe_callB this (o.gl hg) (by rw [o.mg]; exact hm) (by decide +kernel) (pa_cons (UE.pe o e) (pa_cons (pe_bltn (v := .ty T) (o.gl hgT) (by rw [o.mg]; exact hmT) hv rfl hn hdb) pa_nil) (hs _)) (by decide) (by decide) (hs _) (by rfl)) (ev_isi h hk hb)

/-! what is walked -/
theorem di_l {tg : Expr} (h : DE g l e ρ (.lst ds)) : DI g l tg e ρ ds := DI.by (iList g.K (UE g l e)) (fun X o => by have := pi_list (tg := tg) (UE.pe o e); rw [o.K] at this; exact this) (iv_list h)
theorem di_t {tg : Expr} (h : DE g l e ρ (.tup ds)) : DI g l tg e ρ ds := DI.by (iTup g.K (UE g l e)) (fun X o => by have := pi_tup (tg := tg) (UE.pe o e); rw [o.K] at this; exact this) (iv_tup h)
theorem di_s {tg : Expr} {z : Str} (h : DE g l e ρ (.str z)) : DI g l tg e ρ (signD z) := DI.by (iStr (UE g l e)) (fun X o => pi_str (UE.pe o e)) (iv_str h)
theorem di_r {tg : Expr} {n : Nat} {p : Pos} (hm : g.mg "range" = none) (hn : n ≤ 100000) (h : DE g l e ρ (.int n)) (hg : GlN l "range" := by rfl) (hs : ∀ env, starEach [e] env = [(false, eval e env)] := by intro _; rfl) : DI g l tg (.Call (.Name "range" p) [e] [] pos) ρ (rangeD 0 n) :=
  DI.by _ (fun X o => pi_range1 (o.gl hg) (by rw [o.mg]; exact hm) (pa_cons (UE.pe o e) pa_nil (by rw [hs]; rfl)) (hs _)) (iv_range h hn)
/-! targets: read in every context -/
structure DG (g : Gb) (l : Lc) (tg : Expr) (is : List Nat) (d : DV) (ρ ρ' : Rho) : Prop where
  ex : ∃ t, (∀ X, Of g l X → PG X tg t) ∧ TgD g.K t is d ρ ρ'
def UG (g : Gb) (l : Lc) (tg : Expr) : TG := fun v σ H Q => ∃ t, (∀ X, Of g l X → PG X tg t) ∧ t v σ H Q
theorem UG.pg {X : Cx} (o : Of g l X) (tg : Expr) : PG X tg (UG g l tg) := ⟨fun pins s σ H v u Q I r ⟨t, h, q⟩ => (h X o).run pins s σ H v u Q I r q⟩
theorem DG.tg {tg : Expr} {is : List Nat} (h : DG g l tg is d ρ ρ') : TgD g.K (UG g l tg) is d ρ ρ' := fun H0 σ S H v e n r Q q => by
  obtain ⟨t, ht, hv⟩ := h.ex
  exact ⟨t, ht, hv H0 σ S H v e n r Q q⟩
theorem dg_n (i : Nat) {n : Str} (nd : l.N.Nodup) (hN : l.N[i]? = some n := by rfl) (hx : Loc l.sc n := by first | exact Or.inl rfl | exact Or.inr rfl) (hf : l.fn n = true ∨ l.sc.names.lookup n = some .local := by first | exact .inl rfl | exact .inr rfl) : DG g l (.Name n pos) [i] d ρ (ρ.set i (.val d)) :=
  ⟨gName i, fun X o => pg_name (by rw [o.N]; exact nd) (by rw [o.N]; exact hN) (by rw [o.sc]; exact hx) (by rcases hf with h | h; exact .inl (o.fn _ h); exact .inr (by rw [o.sc]; exact h)), tg_name⟩
structure DGs (g : Gb) (l : Lc) (tg : List Expr) (is : List Nat) (d : List DV) (ρ ρ' : Rho) : Prop where
  ex : ∃ t, (∀ X, Of g l X → PGs X tg t) ∧ TgsD g.K t is d ρ ρ'
theorem dgs_nil : DGs g l [] [] [] ρ ρ := ⟨_, fun X o => pgs_nil, tgs_nil⟩
theorem dgs_cons {is js : List Nat} {ρ'' : Rho} (h : DG g l e is d ρ ρ') (hs : DGs g l es js ds ρ' ρ'') (hst : ∀ env, (assignEach (e :: es) env).map (·.2) = assign e env :: (assignEach es env).map (·.2) := by intro _; rfl) : DGs g l (e :: es) (is ++ js) (d :: ds) ρ ρ'' := by
  obtain ⟨t, ht, hv⟩ := h.ex
  obtain ⟨u, hu, hw⟩ := hs.ex
  exact ⟨_, fun X o => pgs_cons (ht X o) (hu X o) (hst _), tgs_cons hv hw⟩
theorem dg_tup {is : List Nat} {k n : Nat} (h : DGs g l es is ds ρ ρ') (hl : ds.length = n := by rfl) (hn : ∀ env, (assignEach es env).length = n := by intro _; rfl) (hst : ∀ env, (assignEach es env).findIdx? (·.1) = none := by intro _; rfl) (hcl : l.cb = true := by rfl) : DG g l (.Tuple es k pos) is (.tup ds) ρ ρ' := by
  obtain ⟨t, ht, hv⟩ := h.ex
  exact ⟨gTup g.K n t, fun X o => by have := pg_tup (pos := pos) (k := k) (o.calm hcl) (ht X o) (hn _) (hst _); rw [o.K] at this; exact this, tg_tup hv hl⟩
end
end PD

/-! Data: comprehensions, statements, defs. -/
namespace PD
open PySem PySem.Spec PyProof.Rows L2

/-! ### comprehensions -/
def relS (scope sc : Scope) : Scope := { scope with names := scope.names.map fun (n, k) => if (k == .free && sc.kind == .function && sc.names.lookup n == some .cell) then (n, .cell) else (n, k) }
def inn (l : Lc) (scope : Scope) : Lc := ⟨l.k, l.N, relS scope l.sc, fun x => scope.names.lookup x == some .cell, l.cb, none⟩
theorem Of.blk {g : Gb} {l : Lc} {X : Cx} (o : Of g l X) (scope : Scope) (s : Shared) (H : Hp) (C : Addr) (cl : List (Str × Addr)) (fp : List Addr) : Of g (inn l scope) (X.blk s H scope (compEnvC scope cl C X.env) fp) where
  prog := o.prog
  w := o.w
  K := o.K
  mg := o.mg
  base := o.base
  N := o.N
  sc := by
    show relabel scope X.env = relS scope l.sc
    rw [← o.sc]
    rfl
  fn := fun _ h => h
  calm := o.calm
  room := o.room
  po := fun _ => PassesOwn.never
  un := o.un
  ex := fun _ _ _ h => by cases h
section
variable {g : Gb} {l : Lc} {ρ ρ' : Rho} {a b c e elt tg iter tg1 iter1 : Expr} {es rest ifs ifs1 : List Expr} {da db d : DV} {pos : Pos} {ds : List DV} {x y : Bool} {scope : Scope} {own : List (Str × Nat)}
/-- a comprehension's reading, one clause -/
def rL (g : Gb) (l : Lc) (elt tg iter : Expr) (ifs : List Expr) (scope : Scope) (own : List (Str × Nat)) : TE := tLc (UI g l tg iter) (UG g (inn l scope) tg) (UTs g (inn l scope) ifs) (UE g (inn l scope) elt) (own.map (·.2))
theorem rL.pe {X : Cx} (o : Of g l X) (nd : l.N.Nodup) (ok : blkC l.N l.sc scope own = true) (hs : ∀ env x, foldedSetIterable iter env x = pure x) (hcl : l.cb = true := by rfl) : PE X (.ListComp elt [⟨tg, iter, ifs, 0⟩] scope pos) (rL g l elt tg iter ifs scope own) :=
  pe_lc (own := own) (o.calm hcl) (by rw [o.N]; exact nd) (UI.pi o tg iter) (blkOk_by (by rw [o.N, o.sc]; exact ok)) (fun s H C cl fp => UG.pg (o.blk scope s H C cl fp) tg) (fun s H C cl fp => UTs.pts (o.blk scope s H C cl fp) ifs) (fun s H C cl fp => UE.pe (o.blk scope s H C cl fp) elt) (hs _)
theorem rL.ev {is : List Nat} (hi : DI g l tg iter ρ ds) (hlen : ds.length ≤ 100000) (his : ∀ j ∈ is, j ∈ own.map (·.2)) (ρ1 : DV → Rho) (p : DV → Bool) (f : DV → DV)
    (hg : ∀ d ∈ ds, DG g (inn l scope) tg is d (wipeR ρ (own.map (·.2))) (ρ1 d)) (ht : ∀ d ∈ ds, DTs g (inn l scope) ifs (ρ1 d) (p d)) (he : ∀ d ∈ ds, p d = true → DE g (inn l scope) elt (ρ1 d) (f d)) : EvL g.K (rL g l elt tg iter ifs scope own) ρ ((ds.filter p).map f) :=
  el_lc hi hlen his ρ1 p f (fun d hd => (hg d hd).tg) ht he
theorem dl_rL (nd : l.N.Nodup) (ok : blkC l.N l.sc scope own = true) (h : EvL g.K (rL g l elt tg iter ifs scope own) ρ ds) (hs : ∀ env x, foldedSetIterable iter env x = pure x := by intro _ _; rfl) (hcl : l.cb = true := by rfl) : DL g l (.ListComp elt [⟨tg, iter, ifs, 0⟩] scope pos) ρ ds :=
  DL.by _ (fun X o => rL.pe (hcl := hcl) o nd ok hs) h
theorem dts_nil : DTs g l [] ρ true := DTs.by _ (fun X o => pts_nil) eb_yes
theorem dts_one (h : DT g l c ρ x) : DTs g l [c] ρ x := DTs.by _ (fun X o => pts_one (UT.pt o c)) h
/-! y = [..] on one line, y a local -/
theorem sw_of {X : Cx} {gs : List Comprehension} {py : Pos} {n : Str} {k : Nat} (o : Of g l X) (hk : l.sc.kind = .function) (hy : l.sc.names.lookup n = some .local) (hl : (py.line == pos.line) = true)
    (ha : (scope.names.any fun (m, k) => m == n && (k == .local || k == .cell)) = false) : swapsWith (.ListComp elt gs scope pos) (some (.Name n py)) k X.env = pure true :=
  sw_true (by rw [o.sc]; exact hk) (by rw [o.sc]; exact hy) hl ha
theorem ps_rL {X : Cx} {i : Nat} {n : Str} {py spos : Pos} (o : Of g l X) (nd : l.N.Nodup) (ok : blkC l.N l.sc scope own = true) (hs : ∀ env x, foldedSetIterable iter env x = pure x) (hN : l.N[i]? = some n) (hk : l.sc.kind = .function) (hy : l.sc.names.lookup n = some .local) (hl : (py.line == pos.line) = true)
    (ha : (scope.names.any fun (m, k) => m == n && (k == .local || k == .cell)) = false) (hcl : l.cb = true := by rfl) : PS X (.Assign [.Name n py] (.ListComp elt [⟨tg, iter, ifs, 0⟩] scope pos) spos) (tAsg (rL g l elt tg iter ifs scope own) (gName i)) :=
  ps_setLc (own := own) (o.calm hcl) (by rw [o.N]; exact nd) (by rw [o.N]; exact hN) (by rw [o.sc]; exact hy) (sw_of o hk hy hl ha) (UI.pi o tg iter) (blkOk_by (by rw [o.N, o.sc]; exact ok)) (fun s H C cl fp => UG.pg (o.blk scope s H C cl fp) tg) (fun s H C cl fp => UTs.pts (o.blk scope s H C cl fp) ifs) (fun s H C cl fp => UE.pe (o.blk scope s H C cl fp) elt) (hs _)
end

/-! ### statements -/
section
variable {g : Gb} {l : Lc} {ρ ρ' : Rho} {a b c e elt tg iter : Expr} {es : List Expr} {d : DV} {pos py spos : Pos} {ds : List DV} {x : Bool} {E : Po} {st : Stmt} {sts body orelse : List Stmt} {scope : Scope} {own : List (Str × Nat)} {n : Str}
theorem dss_nil (h : E.nx ρ) : DSs g l [] ρ E := DSs.by _ (fun X o => pss_nil) (st_next h)
theorem dss_cons (h : DS g l st ρ { E with nx := fun ρ' => DSs g l sts ρ' E }) : DSs g l (st :: sts) ρ E := DSs.by _ (fun X o => pss_cons (US.ps o st) (USs.pss o sts)) (st_seq h)
theorem dss_one (h : DS g l st ρ E) : DSs g l [st] ρ E := DSs.by _ (fun X o => pss_one (US.ps o st)) h
theorem ds_set (i : Nat) (nd : l.N.Nodup) (h : DE g l e ρ d) (q : E.nx (ρ.set i (.val d))) (hN : l.N[i]? = some n := by rfl) (hx : Loc l.sc n := by first | exact Or.inl rfl | exact Or.inr rfl) (hf : l.fn n = true ∨ l.sc.names.lookup n = some .local := by first | exact .inl rfl | exact .inr rfl)
    (hs : ∀ env, swapsWith e (some (.Name n py)) pos.line env = pure false := by intro _; rfl) : DS g l (.Assign [.Name n py] e pos) ρ E :=
  DS.by _ (fun X o => ps_set (i := i) (by rw [o.N]; exact nd) (by rw [o.N]; exact hN) (by rw [o.sc]; exact hx) (UE.pe o e) (hs _) (by rcases hf with h | h; exact .inl (o.fn _ h); exact .inr (by rw [o.sc]; exact h))) (st_asg h q)
theorem ds_setL (i : Nat) (nd : l.N.Nodup) (h : DL g l e ρ ds) (q : E.nx (ρ.set i (.own ds))) (hN : l.N[i]? = some n := by rfl) (hx : Loc l.sc n := by first | exact Or.inl rfl | exact Or.inr rfl) (hf : l.fn n = true ∨ l.sc.names.lookup n = some .local := by first | exact .inl rfl | exact .inr rfl)
    (hs : ∀ env, swapsWith e (some (.Name n py)) pos.line env = pure false := by intro _; rfl) : DS g l (.Assign [.Name n py] e pos) ρ E :=
  DS.by _ (fun X o => ps_set (i := i) (by rw [o.N]; exact nd) (by rw [o.N]; exact hN) (by rw [o.sc]; exact hx) (UE.pe o e) (hs _) (by rcases hf with h | h; exact .inl (o.fn _ h); exact .inr (by rw [o.sc]; exact h))) (st_asgL h q)
/-- a target of any form -/
theorem ds_asg {is : List Nat} (h : DE g l e ρ d) (hg : DG g l tg is d ρ ρ') (q : E.nx ρ') (hs : ∀ env, swapsWithSole [tg] e pos.line env = pure false := by intro _; rfl) (hw : ∀ env, swappedStores [tg] e env = pure none := by intro _; rfl)
    (h1 : ∀ env, (assignEach [tg] env).map (·.2) = [assign tg env] := by intro _; rfl) : DS g l (.Assign [tg] e pos) ρ E :=
  DS.by _ (fun X o => ps_asg (UE.pe o e) (UG.pg o tg) (hs _) (hw _) (h1 _)) (st_asgG h hg.tg q)
theorem ds_ret (h : DE g l e ρ d) (q : E.rt d) : DS g l (.Return (some e) pos) ρ E := DS.by _ (fun X o => ps_ret (UE.pe o e)) (st_ret h q)
theorem ds_if (h : DT g l c ρ x) (h1 : x = true → DSs g l body ρ E) (h2 : x = false → DSs g l orelse ρ E) : DS g l (.If c body orelse pos) ρ E := DS.by _ (fun X o => ps_if (UT.pt o c) (USs.pss o body) (USs.pss o orelse)) (st_if h h1 h2)
theorem ds_ex (h : DE g l e ρ d) (q : E.nx ρ) (hs : ∀ env, swapsWith e none pos.line env = pure false := by intro _; rfl) : DS g l (.Expr e pos) ρ E := DS.by _ (fun X o => ps_expr (UE.pe o e) (hs _)) (st_drop h q)
theorem dss_freeze (i : Nat) {d' : DV} (hi : ρ[i]? = some (.ownD d')) (h : DSs g l sts (ρ.set i (.val d')) E) : DSs g l sts ρ E := st_freeze hi h
theorem ds_for {is : List Nat} (hi : DI g l tg iter ρ ds) (I : Nat → Rho → Prop) (h0 : I 0 ρ)
    (hs : ∀ i d ρ', ds[i]? = some d → I i ρ' → ∃ ρ'', DG g l tg is d ρ' ρ'' ∧ DSs g l body ρ'' { nx := I (i + 1), ct := I (i + 1), bk := E.nx, rt := E.rt }) (hd : ∀ ρ', I ds.length ρ' → E.nx ρ')
    (hf : ∀ env x, foldedSetIterable iter env x = pure x := by intro _ _; rfl) (hcl : l.cb = true := by rfl) : DS g l (.For tg iter body [] pos) ρ E :=
  DS.by _ (fun X o => ps_for (o.po hcl) (o.calm hcl) (UI.pi o tg iter) (UG.pg o tg) (USs.pss o body) (hf _)) (st_for hi I h0 (fun i d ρ' hd hI => let ⟨ρ'', h1, h2⟩ := hs i d ρ' hd hI; ⟨ρ'', h1.tg, h2⟩) hd)
theorem ds_append (i : Nat) {p2 apos cpos : Pos} (hi : ρ[i]? = some (.own ds)) (h : DE g l e ρ d) (hl : ds.length < 100000) (q : E.nx (ρ.set i (.own (ds ++ [d])))) (hN : l.N[i]? = some n := by rfl) (hv : Vis l.sc n := by first | exact Or.inl rfl | exact Or.inr (Or.inl rfl) | exact Or.inr (Or.inr rfl))
    (hd : (n == ("__debug__" : Str)) = false := by decide) (hcd : (n == ("__classdict__" : Str)) = false := by decide) (hst : ∀ env, starEach [e] env = [(false, eval e env)] := by intro _; rfl)
    (hbase : ∀ env, attributeBase (.Name n p2) ("append" : Str) env (eval (.Name n p2) env) = eval (.Name n p2) env := by intro _; rfl)
    (hfew : ∀ env, ((backTo cpos (starEach [e] env)).all (fun x => !x.1) && (backToKw cpos (keywordEach [] env)).all (fun x => x.1.isSome) && decide (([e] : List Expr).length + ([] : List Keyword).length + (if ([] : List Keyword).isEmpty then 0 else 1) < 30)) = true := by intro _; rfl)
    (hline : (apos.endLine == cpos.line) = true := by rfl) (hsw : ∀ env, swapsWith (.Call (.Attribute (.Name n p2) "append" apos) [e] [] cpos) none pos.line env = pure false := by intro _; rfl) : DS g l (.Expr (.Call (.Attribute (.Name n p2) "append" apos) [e] [] cpos) pos) ρ E :=
  DS.by (tDrop (tBM g.K "list" rAppend (tVar i) (tCons (UE g l e) tNil))) (fun X o => by
    have he : PE X (.Call (.Attribute (.Name n p2) "append" apos) [e] [] cpos) (tBM X.K "list" rAppend (tVar i) (tCons (UE g l e) tNil)) :=
      pe_bm PySem.F.plainAttrs_list PySem.F.slot_list_append PySem.F.type_list_append mt_append (pe_var (i := i) (by rw [o.N]; exact hN) (o.vis hv) hd hcd) (pa_cons (UE.pe o e) pa_nil (by rw [hst]; rfl)) (hbase _) (hfew _) hline (by rw [hst]; rfl) (by rfl)
    rw [o.K] at he
    exact ps_expr he (hsw _)) (st_append hi h hl q)
/-- y = [..], kept as one's own, or as a value -/
theorem ds_lcO (i : Nat) {ifs : List Expr} (nd : l.N.Nodup) (ok : blkC l.N l.sc scope own = true) (h : EvL g.K (rL g l elt tg iter ifs scope own) ρ ds) (q : E.nx (ρ.set i (.own ds))) (hN : l.N[i]? = some n := by rfl) (hk : l.sc.kind = .function := by rfl) (hy : l.sc.names.lookup n = some .local := by rfl) (hl : (py.line == pos.line) = true := by rfl)
    (ha : (scope.names.any fun (m, k) => m == n && (k == .local || k == .cell)) = false := by decide +kernel) (hs : ∀ env x, foldedSetIterable iter env x = pure x := by intro _ _; rfl) (hcl : l.cb = true := by rfl) : DS g l (.Assign [.Name n py] (.ListComp elt [⟨tg, iter, ifs, 0⟩] scope pos) spos) ρ E :=
  DS.by _ (fun X o => ps_rL (hcl := hcl) o nd ok hs hN hk hy hl ha) (st_asgL h q)
end

/-! ### defs -/
def rho0 (N : List Str) (ds : List DV) : Rho := ds.map EV.val ++ List.replicate (N.length - ds.length) .un
theorem en_start {K : PySem.W.Frag} {H0 S H : Hp} {N : List Str} {vs : List V} {ds : List DV} (r : RpA K S vs ds) : En K H0 S H (L2.start N vs) (rho0 N ds) where
  len := by
    unfold L2.start rho0
    rw [List.length_append, List.length_append, List.length_map, List.length_map, List.length_replicate, List.length_replicate, r.len]
  at_ := fun i v e a b => by
    unfold L2.start at a
    unfold rho0 at b
    by_cases h : i < ds.length
    · rw [List.getElem?_append_left (by rw [List.length_map, r.len]; exact h), List.getElem?_map] at a
      rw [List.getElem?_append_left (by rw [List.length_map]; exact h), List.getElem?_map, List.getElem?_eq_getElem h] at b
      cases b
      obtain ⟨u, hu, ru⟩ := r.get (List.getElem?_eq_getElem h)
      rw [hu] at a
      cases a
      exact ⟨u, rfl, ru⟩
    · rw [List.getElem?_append_right (by rw [List.length_map]; omega)] at b
      rw [List.getElem?_replicate] at b
      split at b
      · cases b
        trivial
      · cases b
  sep := fun i j p q ds' es hij a b c e => by
    exfalso
    unfold rho0 at a
    by_cases h : i < ds.length
    · rw [List.getElem?_append_left (by rw [List.length_map]; exact h), List.getElem?_map, List.getElem?_eq_getElem h] at a
      cases a
    · rw [List.getElem?_append_right (by rw [List.length_map]; omega), List.getElem?_replicate] at a
      split at a <;> cases a
theorem fn_ok {g : Gb} {x qual : Str} {st : Stmt} {f : Addr} {fd : FuncData} {N ps : List Str} {k : Nat} {R : List DV → DV → Prop} (F : Fun g.K x qual st f fd) (S : FnScope N ps (defScope st)) (len : ∀ ds d, R ds d → ds.length = ps.length)
    (body : ∀ ds d, R ds d → DSs g ⟨k, N, defScope st, fun _ => true, true, none⟩ (defBody st) (rho0 N ds) { nx := fun _ => d = .non, rt := fun r => r = d }) : FnOk g.P g.w g.K g.mg g.base CX0 (k + 1) f fd ps (spR g.K R) := by
  refine F.ok S (fun vs H Q E ⟨S0, ds, d, e, ra, hR, _⟩ => by rw [ra.len]; exact len ds d hR) (fun cdv A outer s H vs Q E hr ⟨S0, ds, d, e, ra, hR, q⟩ => ?_)
  refine ⟨USs g ⟨k, N, defScope st, fun _ => true, true, none⟩ (defBody st), USs.pss ⟨rfl, rfl, rfl, rfl, rfl, rfl, rfl, fun _ _ => rfl, fun _ => rfl, fun _ => hr, hr.un, fun _ => PassesOwn.never, fun _ _ _ h => by cases h⟩ _, ?_⟩
  refine body ds d hR S0 H S0 _ S0 H _ (Go.rf e) (Ex.rf _) (en_start ra) ⟨fun ρ σ S1 H1 z g1 _ n1 => ?_, fun r v S1 H1 z g1 r1 => ?_, fun _ _ _ _ z => z.elim, fun _ _ _ _ z => z.elim⟩
  · have z' : d = .non := z
    subst z'
    exact q .non S1 H1 g1 .non
  · have z' : r = d := z
    subst z'
    exact q v S1 H1 g1 r1
theorem Fn.mk' {g : Gb} {x qual : Str} {st : Stmt} {f : Addr} {fd : FuncData} {ps : List Str} {k : Nat} {R : List DV → DV → Prop} (F : Fun g.K x qual st f fd) (ok : FnOk g.P g.w g.K g.mg g.base CX0 k f fd ps (spR g.K R)) (hm : g.mg x = some (.ref f)) (hb : Binds g.K fd ps []) : Fn g k x R := ⟨f, fd, ps, ok, hm, F.kp, hb⟩
end PD

/-! Data: built-ins by name; isinstance. -/
namespace PD
open PySem PySem.Spec PyProof.Rows L2
/-- the built-ins that no name of the module hides -/
structure Bt (g : Gb) : Prop where
  isi : g.mg "isinstance" = none
  int : g.mg "int" = none
  bool : g.mg "bool" = none
  str : g.mg "str" = none
  tuple : g.mg "tuple" = none
  list : g.mg "list" = none
  len : g.mg "len" = none
  all : g.mg "all" = none
  range : g.mg "range" = none
  enum : g.mg "enumerate" = none
  sum : g.mg "sum" = none
def DV.isInt : DV → Bool
  | .int _ => true | .bl _ => true | _ => false
def DV.isBool : DV → Bool
  | .bl _ => true | _ => false
def DV.isStr : DV → Bool
  | .str _ => true | _ => false
def DV.isTup : DV → Bool
  | .tup _ => true | _ => false
def DV.isLst : DV → Bool
  | .lst _ => true | _ => false
def DV.isObj : DV → Bool
  | .obj _ _ => true | .frz _ => true | .dct _ _ _ => true | .tks _ _ => true | .adr _ => true | _ => false
theorem kb (a b : String) (r : Bool) (h : kitB a b = some r := by decide +kernel) : kitB a b = some r := h
section
variable {g : Gb} {l : Lc} {ρ : Rho} {e : Expr} {d : DV} {pos p p2 : Pos}
theorem kind_some (h : d.isObj = false) : ∃ t, d.kind = some t := by
  cases d <;> first | exact ⟨_, rfl⟩ | cases h
theorem de_isInt (B : Bt g) (ho : d.isObj = false) (h : DE g l e ρ d) (hg : GlN l "isinstance" := by rfl) (hgT : GlN l "int" := by rfl) (hs : ∀ env, starEach (e :: [.Name "int" p2]) env = (false, eval e env) :: starEach [.Name "int" p2] env := by intro _; rfl) :
    DE g l (.Call (.Name "isinstance" p) (e :: [.Name "int" p2]) [] pos) ρ (.bl d.isInt) := by
  obtain ⟨t, hk⟩ := kind_some ho
  refine de_isi (T := "int") (t := t) B.isi B.int (by decide +kernel) hk ?_ h hg hgT (by decide) (by decide) hs
  cases d <;> cases hk <;> first | exact kb _ _ true | exact kb _ _ false
theorem de_isBool (B : Bt g) (ho : d.isObj = false) (h : DE g l e ρ d) (hg : GlN l "isinstance" := by rfl) (hgT : GlN l "bool" := by rfl) (hs : ∀ env, starEach (e :: [.Name "bool" p2]) env = (false, eval e env) :: starEach [.Name "bool" p2] env := by intro _; rfl) :
    DE g l (.Call (.Name "isinstance" p) (e :: [.Name "bool" p2]) [] pos) ρ (.bl d.isBool) := by
  obtain ⟨t, hk⟩ := kind_some ho
  refine de_isi (T := "bool") (t := t) B.isi B.bool (by decide +kernel) hk ?_ h hg hgT (by decide) (by decide) hs
  cases d <;> cases hk <;> first | exact kb _ _ true | exact kb _ _ false
theorem de_isStr (B : Bt g) (ho : d.isObj = false) (h : DE g l e ρ d) (hg : GlN l "isinstance" := by rfl) (hgT : GlN l "str" := by rfl) (hs : ∀ env, starEach (e :: [.Name "str" p2]) env = (false, eval e env) :: starEach [.Name "str" p2] env := by intro _; rfl) :
    DE g l (.Call (.Name "isinstance" p) (e :: [.Name "str" p2]) [] pos) ρ (.bl d.isStr) := by
  obtain ⟨t, hk⟩ := kind_some ho
  refine de_isi (T := "str") (t := t) B.isi B.str (by decide +kernel) hk ?_ h hg hgT (by decide) (by decide) hs
  cases d <;> cases hk <;> first | exact kb _ _ true | exact kb _ _ false
theorem de_isTup (B : Bt g) (ho : d.isObj = false) (h : DE g l e ρ d) (hg : GlN l "isinstance" := by rfl) (hgT : GlN l "tuple" := by rfl) (hs : ∀ env, starEach (e :: [.Name "tuple" p2]) env = (false, eval e env) :: starEach [.Name "tuple" p2] env := by intro _; rfl) :
    DE g l (.Call (.Name "isinstance" p) (e :: [.Name "tuple" p2]) [] pos) ρ (.bl d.isTup) := by
  obtain ⟨t, hk⟩ := kind_some ho
  refine de_isi (T := "tuple") (t := t) B.isi B.tuple (by decide +kernel) hk ?_ h hg hgT (by decide) (by decide) hs
  cases d <;> cases hk <;> first | exact kb _ _ true | exact kb _ _ false
end
/-! comparisons by name: value and test -/
section
variable {g : Gb} {l : Lc} {ρ : Rho} {a b c : Expr} {pos : Pos} {da db : DV} {ds : List DV}
theorem de_leI {i j : Int} (ha : DE g l a ρ (.int i)) (hb : DE g l b ρ (.int j)) : DE g l (.Compare a [.LtE] [b] pos) ρ (.bl (decide (i ≤ j))) := de_cmp (fun X o => op_le) (od_I0 fun S => .bl _) ha hb (nomark _)
theorem de_gtI {i j : Int} (ha : DE g l a ρ (.int i)) (hb : DE g l b ρ (.int j)) : DE g l (.Compare a [.Gt] [b] pos) ρ (.bl (decide (j < i))) := de_cmp (fun X o => op_gt) (od_I0 fun S => .bl _) ha hb (nomark _)
theorem dt_gtI {i j : Int} (ha : DE g l a ρ (.int i)) (hb : DE g l b ρ (.int j)) : DT g l (.Compare a [.Gt] [b] pos) ρ (decide (j < i)) := dt_cmp (fun X o => op_gt) (od_I0 fun S => .bl _) ha hb (nomark _)
theorem dt_eqI {i j : Int} (ha : DE g l a ρ (.int i)) (hb : DE g l b ρ (.int j)) : DT g l (.Compare a [.Eq] [b] pos) ρ (decide (i = j)) := dt_cmp (fun X o => op_eq) od_eqI ha hb (nomark _)
theorem dt_neI {i j : Int} (ha : DE g l a ρ (.int i)) (hb : DE g l b ρ (.int j)) : DT g l (.Compare a [.NotEq] [b] pos) ρ (!decide (i = j)) := dt_cmp (fun X o => op_ne) od_neI ha hb (nomark _)
theorem de_eqS {i j : Str} (ha : DE g l a ρ (.str i)) (hb : DE g l b ρ (.str j)) : DE g l (.Compare a [.Eq] [b] pos) ρ (.bl (decide (i = j))) := de_cmp (fun X o => op_eq) od_eqS ha hb (nomark _)
theorem de_neS {i j : Str} (ha : DE g l a ρ (.str i)) (hb : DE g l b ρ (.str j)) : DE g l (.Compare a [.NotEq] [b] pos) ρ (.bl (!decide (i = j))) := de_cmp (fun X o => op_ne) od_neS ha hb (nomark _)
theorem dt_eqS {i j : Str} (ha : DE g l a ρ (.str i)) (hb : DE g l b ρ (.str j)) : DT g l (.Compare a [.Eq] [b] pos) ρ (decide (i = j)) := dt_cmp (fun X o => op_eq) od_eqS ha hb (nomark _)
theorem dt_neS {i j : Str} (ha : DE g l a ρ (.str i)) (hb : DE g l b ρ (.str j)) : DT g l (.Compare a [.NotEq] [b] pos) ρ (!decide (i = j)) := dt_cmp (fun X o => op_ne) od_neS ha hb (nomark _)
theorem de_eqD (h : da.ok = true) (h' : db.ok = true) (ha : DE g l a ρ da) (hb : DE g l b ρ db) : DE g l (.Compare a [.Eq] [b] pos) ρ (.bl (da.eqv db)) := de_cmp (r := rEqD g.K) (fun X o => by have := op_eqD (X := X) o.u64; rw [o.K] at this; exact this) (od_eqD h h') ha hb (nomark _)
theorem de_neD (h : da.ok = true) (h' : db.ok = true) (ha : DE g l a ρ da) (hb : DE g l b ρ db) : DE g l (.Compare a [.NotEq] [b] pos) ρ (.bl (!da.eqv db)) := de_cmp (r := rNeD g.K) (fun X o => by have := op_neD (X := X) o.u64; rw [o.K] at this; exact this) (od_neD h h') ha hb (nomark _)
theorem dt_eqD (h : da.ok = true) (h' : db.ok = true) (ha : DE g l a ρ da) (hb : DE g l b ρ db) : DT g l (.Compare a [.Eq] [b] pos) ρ (da.eqv db) := dt_cmp (r := rEqD g.K) (fun X o => by have := op_eqD (X := X) o.u64; rw [o.K] at this; exact this) (od_eqD h h') ha hb (nomark _)
theorem dt_neD (h : da.ok = true) (h' : db.ok = true) (ha : DE g l a ρ da) (hb : DE g l b ρ db) : DT g l (.Compare a [.NotEq] [b] pos) ρ (!da.eqv db) := dt_cmp (r := rNeD g.K) (fun X o => by have := op_neD (X := X) o.u64; rw [o.K] at this; exact this) (od_neD h h') ha hb (nomark _)
theorem de_inSign {ch : Nat} {z : Str} (ha : DE g l a ρ (.str ⟨#[ch]⟩)) (hb : DE g l b ρ (.str z)) (hm : behindInMarks .In b = false := by rfl) : DE g l (.Compare a [.In] [b] pos) ρ (.bl (decide (ch ∈ z.cps.toList))) := de_cmp (fun X o => op_in_sign) od_inSign ha hb hm
theorem de_in (h : da.flat = true) (hi : db.items = some ds) (hf : ds.all DV.flat = true) (ha : DE g l a ρ da) (hb : DE g l b ρ db) (hm : behindInMarks .In b = false := by rfl) : DE g l (.Compare a [.In] [b] pos) ρ (.bl (inD da ds)) := de_cmp (r := rIn g.K false) (fun X o => by have := op_in_seq (X := X); rw [o.K] at this; exact this) (od_is h hi hf) ha hb hm
theorem dt_notIn (h : da.flat = true) (hi : db.items = some ds) (hf : ds.all DV.flat = true) (ha : DE g l a ρ da) (hb : DE g l b ρ db) (hm : behindInMarks .NotIn b = false := by rfl) : DT g l (.Compare a [.NotIn] [b] pos) ρ (!inD da ds) := dt_cmp (r := rIn g.K true) (fun X o => by have := op_notIn_seq (X := X); rw [o.K] at this; exact this) (od_notin h hi hf) ha hb hm
/-- a ≤ b < c -/
theorem de_leLt {i j k : Int} (ha : DE g l a ρ (.int i)) (hb : DE g l b ρ (.int j)) (hc : DE g l c ρ (.int k)) (hm : lastMarks [.LtE, .Lt] [b, c] = false := by with_unfolding_all rfl) : DE g l (.Compare a [.LtE, .Lt] [b, c] pos) ρ (.bl (decide (i ≤ j) && decide (j < k))) :=
  de_chain (fun X o => op_le) (fun X o => op_lt) (od_I0 fun S => .bl _) (fun _ => od_I0 fun S => .bl _) ha hb (fun _ => hc) hm
theorem de_leLe {i j k : Int} (ha : DE g l a ρ (.int i)) (hb : DE g l b ρ (.int j)) (hc : DE g l c ρ (.int k)) (hm : lastMarks [.LtE, .LtE] [b, c] = false := by with_unfolding_all rfl) : DE g l (.Compare a [.LtE, .LtE] [b, c] pos) ρ (.bl (decide (i ≤ j) && decide (j ≤ k))) :=
  de_chain (fun X o => op_le) (fun X o => op_le) (od_I0 fun S => .bl _) (fun _ => od_I0 fun S => .bl _) ha hb (fun _ => hc) hm
theorem dt_leLe {i j k : Int} (ha : DE g l a ρ (.int i)) (hb : DE g l b ρ (.int j)) (hc : DE g l c ρ (.int k)) (hm : lastMarks [.LtE, .LtE] [b, c] = false := by with_unfolding_all rfl) : DT g l (.Compare a [.LtE, .LtE] [b, c] pos) ρ (decide (i ≤ j) && decide (j ≤ k)) :=
  dt_chain (fun X o => op_le) (fun X o => op_le) (od_I0 fun S => .bl _) (fun _ => od_I0 fun S => .bl _) ha hb (fun _ => hc) hm
end
end PD

/-! Dicts of the data layer: what is done with them. -/
namespace PD
open PySem PySem.Spec PyProof.Rows L2 MX

section
variable {X : Cx} {pins : List (Addr × Obj)} {σ : L2.St} {S H : Hp} {s : Shared} {p : Addr} {ks vs : List DV} {A : Around} {E : Value → Shared → Prop} {d : DV} {v : V} {u : Value}
end
end PD

/-! Dicts of the data layer: comprehensions. -/
namespace PD
open PySem PySem.Spec PyProof.Rows L2 MX
section
variable {X : Cx}
variable {kx vx tg iter : Expr} {ifs : List Expr} {scope : Scope} {own : List (Str × Nat)} {pos : Pos} {wi : TI} {g : TG} {tt : TT} {tk tv : TE}
end
end PD

/-! enumerate over a tuple. -/
namespace PDT
open PySem PyProof.Rows
open Builtin
open AutoSeq1 (wpAny_loadPart')
section
variable {prog : Program} {w : World} {A : Around} {E : Value → Shared → Prop} {s : Shared}
end
end PDT
namespace PD
open PySem PySem.Spec PyProof.Rows L2
section
variable {K : PySem.W.Frag} {ρ : Rho} {te : TE}
end
end PD

/-! Data: join, list(text), text[::-1], isinstance with two types. -/
namespace PD
open PySem PySem.Spec PyProof.Rows L2
/-! list(text) -/
section
variable {K : PySem.W.Frag}
end
section
variable {g : Gb} {l : Lc} {ρ : Rho} {e a : Expr} {pos : Pos} {ds : List DV} {d da : DV}
/-! sep.join(list of texts) -/
def rJoinX (K : PySem.W.Frag) : V → List V → Hp → VK → Prop := fun x xs H Q => ∃ a p, ∃ ys : List Str, x = .str a ∧ xs = [.ref p] ∧ (SqL K H p (ys.map V.str) ∨ SqT K H p (ys.map V.str)) ∧ (ys.map (·.length)).sum + ys.length * a.length ≤ 16777216 ∧ Q (.str (Txt.join a ys)) H
theorem ev_join {K : PySem.W.Frag} {to te : TE} {sep : Str} {ys : List Str} (h1 : EvD K to ρ (.str sep)) (h2 : EvD K te ρ da) (hi : da.items = some (ys.map DV.str)) (hz : (ys.map (·.length)).sum + ys.length * sep.length ≤ 16777216) : EvD K (tM1 (rJoinX K) to te) ρ (.str (Txt.join sep ys)) := fun H0 σ S H ex n Q q =>
  h1 H0 σ S H ex n _ fun x S1 H1 g1 r1 => by
    cases r1
    refine ⟨⟨sep, rfl⟩, h2 H0 σ S1 H1 g1.sub (n.go g1) _ fun y S2 H2 g2 r2 => ?_⟩
    obtain ⟨p, xs, rfl, hs, ra⟩ := items_rp hi r2
    have z := strsD ra
    subst z
    exact ⟨sep, p, ys, rfl, rfl, sq_up g2.sub hs, hz, q _ S2 H2 (g1.tr g2) (.str _)⟩
theorem de_join {apos : Pos} {sep : Str} {ys : List Str} (h1 : DE g l a ρ (.str sep)) (h2 : DE g l e ρ da) (hi : da.items = some (ys.map DV.str)) (hz : (ys.map (·.length)).sum + ys.length * sep.length ≤ 16777216) (hs : ∀ env, starEach [e] env = [(false, eval e env)] := by intro _; rfl)
    (hbase : ∀ env, attributeBase a ("join" : Str) env (eval a env) = eval a env := by intro _; rfl) (hline : (apos.endLine == pos.line) = true := by rfl) : DE g l (.Call (.Attribute a "join" apos) [e] [] pos) ρ (.str (Txt.join sep ys)) :=
  DE.by (tM1 (rJoinX g.K) (UE g l a) (UE g l e)) (fun X o => by have := pe_join (X := X) (apos := apos) (pos := pos) (UE.pe o a) (UE.pe o e) (hs _) (hbase _) hline; rw [o.K] at this; exact this) (ev_join h1 h2 hi hz)
/-! text[::-1] -/
/-! isinstance(x, (list, tuple)) -/
theorem de_isLT {p p2 p3 p4 : Pos} {k : Nat} (B : Bt g) (ho : d.isObj = false) (h : DE g l e ρ d) (hg : GlN l "isinstance" := by rfl) (hgL : GlN l "list" := by rfl) (hgT : GlN l "tuple" := by rfl)
    (hs : ∀ env, starEach (e :: [.Tuple [.Name "list" p2, .Name "tuple" p3] k p4]) env = (false, eval e env) :: starEach [.Tuple [.Name "list" p2, .Name "tuple" p3] k p4] env := by intro _; rfl) :
    DE g l (.Call (.Name "isinstance" p) (e :: [.Tuple [.Name "list" p2, .Name "tuple" p3] k p4]) [] pos) ρ (.bl (d.isLst || d.isTup)) :=
  DE.by (tCB (rIsiT g.K) (tCons (UE g l e) (tCons (tTup (tCons (tC (.ty "list")) (tCons (tC (.ty "tuple")) tNil))) tNil))) (fun X o => by
    have := call_isiT (X := X)
    rw [o.K] at this
    exact pe_callB this (o.gl hg) (by rw [o.mg]; exact B.isi) (by decide +kernel) (pa_cons (UE.pe o e) (pa_cons (pe_tup (pa_cons (pe_bltn (v := .ty "list") (o.gl hgL) (by rw [o.mg]; exact B.list) (by decide +kernel) rfl) (pa_cons (pe_bltn (v := .ty "tuple") (o.gl hgT) (by rw [o.mg]; exact B.tuple) (by decide +kernel) rfl) pa_nil))) pa_nil) (hs _)) (by decide) (by decide) (hs _) (by rfl))
    fun H0 σ S H ex n Q q => h H0 σ S H ex n _ fun v S1 H1 g1 r1 => ⟨by show 2 ≤ sizeLine; decide, fun tp hp => by
      obtain ⟨t, hk⟩ := kind_some ho
      refine ⟨v, tp, _, _, _, d.isLst || d.isTup, rfl, upd_same, .cons (.ty _) (.cons (.ty _) .nil), ty_of (g1.sub.tr (Ex.new hp)) hk r1, ?_, q _ _ _ (g1.tr (Go.side g1.sub (Ex.new hp))) (.bl _)⟩
      have nl : ∀ (t : Value), PySem.W.kitAny g.K t [] = some false := fun _ => rfl
      cases d <;> cases hk <;> first
        | exact kitAny_cons (b := true) (kit_ty (kb _ _ true)) (fun z => by cases z) (fun _ => rfl)
        | exact kitAny_cons (b := false) (kit_ty (kb _ _ false)) (fun _ => kitAny_cons (b := true) (kit_ty (kb _ _ true)) (fun z => by cases z) (fun _ => rfl)) (fun z => by cases z)
        | exact kitAny_cons (b := false) (kit_ty (kb _ _ false)) (fun _ => kitAny_cons (b := false) (kit_ty (kb _ _ false)) (fun _ => nl _) (fun z => by cases z)) (fun z => by cases z)
        | cases ho⟩
end
end PD

/-! Dicts of the data layer: walks over a locked dict, the rules by syntax. -/
namespace PD
open PySem PySem.Spec PyProof.Rows L2 MX
section
variable {X : Cx} {pins : List (Addr × Obj)} {σ : L2.St} {H : Hp} {s : Shared} {d : Addr} {od : Obj} {es : List DictEntry}
end
section
variable {P : Program} {w : World} {K : PySem.W.Frag} {tg : Expr} {d : Addr} {od : Obj} {es : List DictEntry} {kvs us : List V} {ar : Array DictEntry} {ep : Nat}
end
section
variable {X : Cx} {tg e : Expr} {td : TE} {apos cpos : Pos}
end
end PD

/-! Data: instances: attributes, properties, methods, len, ==, !=, isinstance, making. -/
namespace PD
open PySem PySem.Spec PyProof.Rows L2
section
variable {g : Gb} {l : Lc} {ρ : Rho} {e a b o : Expr} {es : List Expr} {pos : Pos} {ds : List DV} {d da db : DV} {C : Addr} {gs : List (Str × DV)} {n : Str}
theorem obj_rp {K : PySem.W.Frag} {S : Hp} {v : V} (r : Rp K S v (.obj C gs)) : ∃ a dx fs, v = .ref a ∧ S a = some (.ins C dx fs) ∧ RpF K S fs gs := by
  cases r with
  | obj h q => exact ⟨_, _, _, rfl, h, q⟩
/-- e.n, an attribute -/
theorem ev_fld {K : PySem.W.Frag} {te : TE} (c : Cls K C) (hn : NoAttr K C n) (h : EvD K te ρ (.obj C gs)) (hl : gs.lookup n = some d) : EvD K (tFld K te n) ρ d := fun H0 σ S H ex m Q q =>
  h H0 σ S H ex m _ fun v S1 H1 g1 r1 => by
    obtain ⟨p, dx, fs, rfl, hp, rf⟩ := obj_rp r1
    obtain ⟨u, hu, ru⟩ := rf.look hl
    exact ⟨p, C, dx, fs, u, rfl, g1.sub _ _ hp, c, hn, hu, q u S1 H1 g1 ru⟩
theorem de_fld (c : Cls g.K C) (hn : NoAttr g.K C n) (hl : gs.lookup n = some d) (h : DE g l e ρ (.obj C gs)) (hab : ∀ env, attributeBase e n env (eval e env) = eval e env := by intro _; rfl) : DE g l (.Attribute e n pos) ρ d :=
  DE.by (tFld g.K (UE g l e) n) (fun X o => by have := pe_fld (f := n) (pos := pos) (UE.pe o e) (hab _); rw [o.K] at this; exact this) (ev_fld c hn h hl)
/-- a def that is known, wherever it stands -/
structure Fd (g : Gb) (k : Nat) (f : Addr) (R : List DV → DV → Prop) : Prop where
  ex : ∃ fd ps, FnOk g.P g.w g.K g.mg g.base CX0 k f fd ps (spR g.K R) ∧ Binds g.K fd ps []
/-- e.n, a property -/
structure Pr (g : Gb) (k : Nat) (C : Addr) (n : Str) (R : List DV → DV → Prop) : Prop where
  ex : ∃ p f, PropOf g.K C n p f ∧ Fd g k f R
theorem ev_prop {K : PySem.W.Frag} {te : TE} {R : List DV → DV → Prop} (h : EvD K te ρ (.obj C gs)) (hR : R [.obj C gs] d) : EvD K (tProp C (spR K R) [] E0 te) ρ d := fun H0 σ S H ex m Q q =>
  h H0 σ S H ex m _ fun v S1 H1 g1 r1 => by
    obtain ⟨p, dx, fs, rfl, hp, rf⟩ := obj_rp r1
    exact ⟨p, dx, fs, rfl, g1.sub _ _ hp, S1, _, _, g1.sub, .cons (.obj hp rf) .nil, hR, fun v S2 H2 g2 r2 => q v S2 H2 (g1.tr g2) r2⟩
theorem de_prop {k : Nat} {R : List DV → DV → Prop} (c : Cls g.K C) (P : Pr g k C n R) (hR : R [.obj C gs] d) (h : DE g l e ρ (.obj C gs)) (hk : k + 1 ≤ l.k := by decide) (hab : ∀ env, attributeBase e n env (eval e env) = eval e env := by intro _; rfl) (hcl : l.cb = true := by rfl) : DE g l (.Attribute e n pos) ρ d := by
  obtain ⟨p, f, hp, fd, ps, ok, hb⟩ := P.ex
  exact DE.by (tProp C (spR g.K R) [] E0 (UE g l e)) (fun X o => pe_prop (UE.pe o e) (by rw [o.K]; exact c) (by rw [o.K]; exact hp) (CX := CX0) (k := k) (by rw [o.prog, o.w, o.K, o.mg, o.base]; exact ok) ((o.room hcl).mono hk) (ds := []) (by rw [o.K]; exact hb) .nil pass0 (hab _)) (ev_prop h hR)
/-- e.n(), a method without arguments -/
structure Me (g : Gb) (k : Nat) (C : Addr) (n : Str) (R : List DV → DV → Prop) : Prop where
  ex : ∃ f, Meth g.K C n f ∧ Fd g k f R
theorem ev_meth {K : PySem.W.Frag} {te : TE} {ta : TA} {R : List DV → DV → Prop} (h : EvD K te ρ (.obj C gs)) (ha : EvA K ta ρ ds) (hno : gs.lookup n = none) (hR : R (.obj C gs :: ds) d) : EvD K (tMeth C n (spR K R) [] E0 te ta) ρ d := fun H0 σ S H ex m Q q =>
  h H0 σ S H ex m _ fun v S1 H1 g1 r1 => by
    obtain ⟨p, dx, fs, rfl, hp, rf⟩ := obj_rp r1
    refine ⟨p, dx, fs, rfl, g1.sub _ _ hp, rf.no hno, ha H0 σ S1 H1 g1.sub (m.go g1) _ fun vs S2 H2 g2 r2 => ?_⟩
    exact ⟨S2, _, _, g2.sub, by rw [List.append_nil]; exact .cons (.obj (g2.s _ _ hp) (rf.up g2.s)) r2, hR, fun v S3 H3 g3 r3 => q v S3 H3 ((g1.tr g2).tr g3) r3⟩
theorem de_meth0 {k : Nat} {apos : Pos} {R : List DV → DV → Prop} {pl : Env → Sem Bool} (c : Cls g.K C) (M : Me g k C n R) (hno : gs.lookup n = none) (hR : R [.obj C gs] d) (h : DE g l e ρ (.obj C gs)) (hk : k ≤ l.k := by decide)
    (ht : ∀ env, eval (.Call (.Attribute e n apos) [] [] pos) env = (do
      let ov ← eval e env; standAt apos.atName; let (f, first) ← holding [ov] (getMethod ov n (pl env)); callWith pos f first (backTo pos (starEach [] env)) (backToKw pos (keywordEach [] env))) := by intro _; rfl) (hcl : l.cb = true := by rfl) : DE g l (.Call (.Attribute e n apos) [] [] pos) ρ d := by
  obtain ⟨f, hm, fd, ps, ok, hb⟩ := M.ex
  exact DE.by (tMeth C n (spR g.K R) [] E0 (UE g l e) tNil) (fun X o => pe_meth0 (pl := pl _) (CX := CX0) (k := k) (UE.pe o e) (by rw [o.K]; exact c) (by rw [o.K]; exact hm) (by rw [o.prog, o.w, o.K, o.mg, o.base]; exact ok) ((o.room hcl).mono hk) (ds := []) (by rw [o.K]; exact hb) .nil pass0 (ht _)) (ev_meth h ea_nil hno hR)
end
/-! isinstance(x, C), an own class -/
structure Kl (g : Gb) (C : Addr) (x : Str) : Prop where
  c : Cls g.K C
  ha : PySem.W.findIn g.K (.ref C) "__class__" = some (some (.builtin "object.__class__"))
  hn : PySem.W.specialIn g.K (.builtin "object.__class__") "__get__" = some (some (.builtin "getset_descriptor.__get__"))
  ht : PySem.W.takesIn g.K (.builtin "object.__class__") = some true
  hm : PySem.W.mroIn g.K C (.type "object") = some true
  mg : g.mg x = some (.ref C)
section
variable {g : Gb} {l : Lc} {ρ : Rho} {e a b o : Expr} {es : List Expr} {pos : Pos} {ds : List DV} {d da db : DV} {C : Addr} {gs hs : List (Str × DV)} {n : Str}
theorem de_isOwn {p p2 : Pos} (B : Bt g) (k : Kl g C n) (h : DE g l e ρ (.obj C gs)) (hg : GlN l "isinstance" := by rfl) (hgC : GlN l n := by rfl) (hdb : (n == ("__debug__" : Str)) = false := by decide)
    (hs : ∀ env, starEach (e :: [.Name n p2]) env = (false, eval e env) :: starEach [.Name n p2] env := by intro _; rfl) : DE g l (.Call (.Name "isinstance" p) (e :: [.Name n p2]) [] pos) ρ (.bl true) :=
  DE.by (tCB (rIsi g.K) (tCons (UE g l e) (tCons (tC (.ref C)) tNil))) (fun X o => by
    have := call_isi (X := X)
    rw [o.K] at this
    exact pe_callB this (o.gl hg) (by rw [o.mg]; exact B.isi) (by decide +kernel) (pa_cons (UE.pe o e) (pa_cons (pe_glob (v := .ref C) (o.gl hgC) (by rw [o.mg]; exact k.mg) rfl hdb) pa_nil) (hs _)) (by decide) (by decide) (hs _) (by rfl))
    fun H0 σ S H ex m Q q => h H0 σ S H ex m _ fun v S1 H1 g1 r1 => by
      obtain ⟨p, dx, fs, rfl, hp, rf⟩ := obj_rp r1
      refine ⟨.ref p, .ref C, _, _, true, rfl, .own C, .base (.ins (g1.sub _ _ hp) k.c k.ha k.hn k.ht k.hm), ?_, q _ S1 H1 g1 (.bl _)⟩
      unfold PySem.W.kitOne
      rw [if_pos (by simp)]
/-! a call from within a built-in -/
theorem run1 {X : Cx} {k : Nat} {f : Addr} {fd : FuncData} {ps : List Str} {sp : Sp} {pins : List (Addr × Obj)} {σ : L2.St} {H : Hp} {s : Shared} {Q : VK} {us : List Value} {vs : List V} {E : Value → Shared → Prop} (F : FnOk X.prog X.w X.K X.mg X.base CX0 k f fd ps sp) (hr : Room (k + 1) X.A) (hb : Binds X.K fd ps [])
    (I : Inv X pins σ H s) (r : Vals vs us) (h : sp vs H Q E0) : wpAny (model X.prog X.w) X.A.in1 (call (.ref f) us) (EP X pins σ Q) E s := by
  have hl : us.length = ps.length := by rw [← r.length]; exact F.len _ _ _ _ h
  have hb' := hb s us I.kIn (by rw [List.append_nil]; exact hl)
  rw [List.append_nil] at hb'
  refine wpAny_call (codeAny_mono (F.run X.A.in1 X.stack s H ⟨us, []⟩ us vs Q E0 hr.in1 I.env0.in1 hb' r h) fun r s' hq => ?_)
  cases r with
  | error er => exact hq.elim
  | ok fl => cases fl with
    | ret u => exact I.after hq
    | _ => exact hq.elim
/-- len(x) by an own __len__ -/
theorem call_lenO {X : Cx} {k : Nat} {f : Addr} {fd : FuncData} {ps : List Str} {sp : Sp} (F : FnOk X.prog X.w X.K X.mg X.base CX0 k f fd ps sp) (hr : Room (k + 1) X.A) (hb : Binds X.K fd ps []) (hm : Meth X.K C "__len__" f) :
    CallR X (.builtin "len") (fun xs H Q => ∃ p dx fs, xs = [.ref p] ∧ H p = some (.ins C dx fs) ∧ sp [.ref p] H (fun v H' => ∃ i : Int, v = .int i ∧ 0 ≤ i ∧ i < 2 ^ 63 ∧ Q (.int i) H') E0) := by
  rintro pins s σ H _ us Q I r ⟨p, dx, fs, rfl, hp, h⟩
  obtain ⟨u, rfl, hu⟩ := vals1 r
  cases hu
  obtain ⟨mA, J, _⟩ := ins_get I.hok hp
  obtain ⟨od, J, _⟩ := J.look
  obtain ⟨m, hF⟩ := I.fr
  refine PySem.W.len_K hF I.ok.mod.kin J hm.at_ hm.fn (wpAny_mono (run1 (vs := [.ref p]) (us := [.ref p]) F hr hb I (.cons rfl .nil) h) (fun v s' ⟨w, H', I', rw, i, e, h0, h1, q⟩ => ?_) fun _ _ z => z)
  subst e
  obtain ⟨t, rfl⟩ := rw
  exact ⟨⟨h0, h1⟩, .int i, H', I'.tok _, ⟨_, rfl⟩, q⟩
structure Lo (g : Gb) (k : Nat) (C : Addr) (R : List DV → DV → Prop) : Prop where
  ex : ∃ f, Meth g.K C "__len__" f ∧ Fd g k f R
theorem de_lenO {k : Nat} {p : Pos} {i : Nat} {R : List DV → DV → Prop} (B : Bt g) (M : Lo g k C R) (hR : R [.obj C gs] (.int i)) (hi : i ≤ 100000) (h : DE g l e ρ (.obj C gs)) (hk : k + 1 ≤ l.k := by decide) (hg : GlN l "len" := by rfl) (hs : ∀ env, starEach [e] env = [(false, eval e env)] := by intro _; rfl) (hcl : l.cb = true := by rfl) : DE g l (.Call (.Name "len" p) [e] [] pos) ρ (.int i) := by
  obtain ⟨f, hm, fd, ps, ok, hb⟩ := M.ex
  refine DE.by (tCB (fun xs H Q => ∃ p dx fs, xs = [.ref p] ∧ H p = some (.ins C dx fs) ∧ (spR g.K R) [.ref p] H (fun v H' => ∃ i : Int, v = .int i ∧ 0 ≤ i ∧ i < 2 ^ 63 ∧ Q (.int i) H') E0) (tCons (UE g l e) tNil)) (fun X o => ?_) ?_
  · refine pe_callB (call_lenO (k := k) (fd := fd) (ps := ps) (by rw [o.prog, o.w, o.K, o.mg, o.base]; exact ok) ((o.room hcl).mono hk) (by rw [o.K]; exact hb) (by rw [o.K]; exact hm)) (o.gl hg) (by rw [o.mg]; exact B.len) boot_len (pa_cons (UE.pe o e) pa_nil (by rw [hs]; rfl)) (by decide) (by decide) (by rw [hs]; rfl) (by rfl)
  · exact fun H0 σ S H ex m Q q => h H0 σ S H ex m _ fun v S1 H1 g1 r1 => by
      obtain ⟨p, dx, fs, rfl, hp, rf⟩ := obj_rp r1
      refine ⟨p, dx, fs, rfl, g1.sub _ _ hp, S1, _, _, g1.sub, .cons (.obj hp rf) .nil, hR, fun v S2 H2 g2 r2 => ?_⟩
      cases r2
      exact ⟨(i : Int), rfl, by omega, by omega, q _ S2 H2 (g1.tr g2) (.int _)⟩
end
end PD

/-! Data: == and != of instances; an instance is made. -/
namespace PD
open PySem PySem.Spec PyProof.Rows L2
section
variable {g : Gb} {l : Lc} {ρ : Rho} {e a b o : Expr} {es : List Expr} {pos : Pos} {ds : List DV} {d da db : DV} {C : Addr} {gs hs : List (Str × DV)} {n : Str}
end
/-! keywords -/
def UK (g : Gb) (l : Lc) (kws : List Keyword) : TA := fun σ H Q => ∃ t, (∀ X, Of g l X → PK X kws t) ∧ t σ H Q
theorem UK.pk {g : Gb} {l : Lc} {X : Cx} (o : Of g l X) (kws : List Keyword) : PK X kws (UK g l kws) := ⟨fun pos pins s σ H Q I ⟨t, h, q⟩ => (h X o).run pos pins s σ H Q I q⟩
def DK (g : Gb) (l : Lc) (kws : List Keyword) (ρ : Rho) (ds : List DV) : Prop := EvA g.K (UK g l kws) ρ ds
section
variable {g : Gb} {l : Lc} {ρ : Rho} {e : Expr} {es : List Expr} {pos : Pos} {ds es' : List DV} {d : DV} {C : Addr} {gs : List (Str × DV)} {n : Str} {kws : List Keyword}
theorem dk_nil : DK g l [] ρ [] := fun H0 σ S H ex m Q q => ⟨_, fun X o => pk_nil, ea_nil H0 σ S H ex m Q q⟩
theorem dk_cons {nm : Option Str} {kp : Pos} (h : DE g l e ρ d) (hr : DK g l kws ρ ds) : DK g l (⟨nm, e, kp⟩ :: kws) ρ (d :: ds) := fun H0 σ S H ex m Q q => ⟨_, fun X o => pk_cons (UE.pe o e) (UK.pk o kws), ea_cons h hr H0 σ S H ex m Q q⟩
/-- the promise of an __init__: from ds the attributes gs -/
def spI (K : PySem.W.Frag) (C : Addr) (R : List DV → List (Str × DV) → Prop) : Sp := fun vs H Q _ => ∃ (x dx : Addr) (vs' : List V) (S : Hp) (ds : List DV) (gs : List (Str × DV)), vs = .ref x :: vs' ∧ H x = some (.ins C dx []) ∧ Ex S H ∧ S x = none ∧ RpA K S vs' ds ∧ R ds gs ∧
  ∀ S' H' fs, Go S (fun a => if a = x then none else H a) S' H' → S' x = none → H' x = some (.ins C dx fs) → RpF K S' fs gs → Q .non H'
structure Mf (g : Gb) (k n : Nat) (ks : List Str) (C : Addr) (x : Str) (ms : List DV) (R : List DV → List (Str × DV) → Prop) : Prop where
  mg : g.mg x = some (.ref C)
  ex : ∃ f fd ps gg gV mv, Mk g.K C f ∧ FnOk g.P g.w g.K g.mg g.base CX0 k f fd ps (spI g.K C R) ∧ KBn g.K fd ps (n + 1) ks gg gV ∧ (∀ (v : V) (vs zs : List V), gV (v :: vs) zs = v :: (vs ++ zs ++ mv)) ∧ ∀ S, RpA g.K S mv ms
theorem ev_make {K : PySem.W.Frag} {ta tk : TA} {k m : Nat} {gV : List V → List V → List V} {mv : List V} {ms : List DV} {R : List DV → List (Str × DV) → Prop} (ha : EvA K ta ρ ds) (hk : EvA K tk ρ es') (hm : ∀ S, RpA K S mv ms) (hg : ∀ (v : V) (vs zs : List V), gV (v :: vs) zs = v :: (vs ++ zs ++ mv)) (l1 : ds.length = k) (l2 : es'.length = m) (hR : R (ds ++ es' ++ ms) gs) :
    EvD K (tMakeK C k m (spI K C R) gV E0 ta tk) ρ (.obj C gs) := fun H0 σ S H ex n Q q =>
  ha H0 σ S H ex n _ fun vs S1 H1 g1 r1 => hk H0 σ S1 H1 g1.sub (n.go g1) _ fun zs S2 H2 g2 r2 => ⟨by rw [r1.len, l1], by rw [r2.len, l2], fun x dx nx ndx nex => by
    have sx : S2 x = none := g2.sub.free nx
    have e1 : Ex H2 (upd (upd H2 dx (.own x)) x (.ins C dx [])) := fun a u z => by
      rw [upd_ne (ne_of_none z nx), upd_ne (ne_of_none z ndx)]
      exact z
    refine ⟨x, dx, vs ++ zs ++ mv, S2, _, gs, hg _ _ _, upd_same, g2.sub.tr e1, sx, ((r1.up g2.s).append r2).append (hm S2), hR, fun S3 H3 fs g3 n3 hx rf => ⟨rfl, ?_⟩⟩
    have e3 : Ex H2 H3 := fun a u z => g3.h a u (by
      have ne := ne_of_none z nx
      show (if a = x then none else (upd (upd H2 dx (.own x)) x (.ins C dx [])) a) = some u
      rw [if_neg ne]
      exact e1 a u z)
    have g4 : Go S2 H2 S3 H3 := ⟨g3.s, e3, g3.sub, fun p u a b => by
      have z := g3.new p u a b
      by_cases w : p = x
      · rw [w]; exact nx
      · have z' : (upd (upd H2 dx (.own x)) x (.ins C dx [])) p = none := by
          have : (if p = x then none else (upd (upd H2 dx (.own x)) x (.ins C dx [])) p) = none := z
          rwa [if_neg w] at this
        exact e1.free z'⟩
    exact q _ _ H3 (((g1.tr g2).tr g4).frz n3 ((g1.tr g2).h.free nx) hx) (.obj upd_same (rf.up (Ex.new n3)))⟩
theorem de_make {k m : Nat} {ks : List Str} {p : Pos} {ms : List DV} {R : List DV → List (Str × DV) → Prop} (M : Mf g k m ks C n ms R) (ha : DA g l (e :: es) ρ ds) (hkw : DK g l kws ρ es') (hR : R (ds ++ es' ++ ms) gs) (l1 : ds.length = m := by rfl) (l2 : es'.length = ks.length := by rfl) (hk : k + 1 ≤ l.k := by decide) (hg : GlN l n := by rfl)
    (hall : ∀ env, (backToKw pos (keywordEach kws env)).all (·.1.isSome) = true := by intro _; rfl) (hks : ∀ env, (backToKw pos (keywordEach kws env)).filterMap (·.1) = ks := by intro _; rfl) (hdb : (n == ("__debug__" : Str)) = false := by decide)
    (he : ∀ env, starEach (e :: es) env = (false, eval e env) :: starEach es env := by intro _; rfl) (hpl : ∀ env, ((backTo pos (starEach (e :: es) env)).any (·.1) || (backToKw pos (keywordEach kws env)).any (·.1.isNone)) = false := by intro _; rfl) (hcl : l.cb = true := by rfl) :
    DE g l (.Call (.Name n p) (e :: es) kws pos) ρ (.obj C gs) := by
  obtain ⟨hmg, f, fd, ps, gg, gV, mv, mk, ok, kb, hgV, hmv⟩ := M
  exact DE.by (tMakeK C m ks.length (spI g.K C R) gV E0 (UA g l (e :: es)) (UK g l kws)) (fun X o => pe_makeK (CX := CX0) (k := k) (by rw [o.K]; exact mk) (by rw [o.prog, o.w, o.K, o.mg, o.base]; exact ok) ((o.room hcl).mono hk) (o.gl hg) (by rw [o.mg]; exact hmg) (by rw [o.K]; exact kb) pass0 (UA.pa o _) (UK.pk o kws) (hall _) (hks _) hdb (he _) (hpl _)) (ev_make ha hkw hmv hgV l1 l2 hR)
end
end PD

/-! Data: a, b = x, y; list(range(n)). -/
namespace PD
open PySem PySem.Spec PyProof.Rows L2
section
variable {g : Gb} {l : Lc} {ρ : Rho} {a b c e : Expr} {pos px py pz pt pt2 : Pos} {kt k2 : Nat} {d1 d2 d3 : DV} {ds : List DV} {E : Po} {x y z : Str}
theorem ds_par (i j : Nat) (nd : l.N.Nodup) (ha : DE g l a ρ d1) (hb : DE g l b ρ d2) (q : E.nx ((ρ.set i (.val d1)).set j (.val d2))) (hi : l.N[i]? = some x := by rfl) (hj : l.N[j]? = some y := by rfl) (hij : i ≠ j := by decide)
    (hx : l.sc.names.lookup x = some .local := by rfl) (hy : l.sc.names.lookup y = some .local := by rfl) (hs : ∀ env, starEach [a, b] env = (false, eval a env) :: starEach [b] env := by intro _; rfl) (hs2 : ∀ env, starEach [b] env = (false, eval b env) :: starEach [] env := by intro _; rfl)
    (hw : ∀ env, env.scope = l.sc → swappedStores [.Tuple [.Name x px, .Name y py] kt pt] (.Tuple [a, b] k2 pt2) env = pure (some [x, y]) := by intro env h; cases env; cases h; rfl)
    (hsw : ∀ env, swapsWithSole [.Tuple [.Name x px, .Name y py] kt pt] (.Tuple [a, b] k2 pt2) pos.line env = pure false := by intro _; rfl) (hcl : l.cb = true := by rfl) : DS g l (.Assign [.Tuple [.Name x px, .Name y py] kt pt] (.Tuple [a, b] k2 pt2) pos) ρ E :=
  DS.by (tPar i j (tCons (UE g l a) (tCons (UE g l b) tNil))) (fun X o => ps_par (o.calm hcl) (by rw [o.N]; exact nd) (by rw [o.N]; exact hi) (by rw [o.N]; exact hj) hij (by rw [o.sc]; exact hx) (by rw [o.sc]; exact hy) (pa_cons (UE.pe o a) (pa_cons (UE.pe o b) pa_nil (hs2 _)) (hs _)) (hw _ o.sc) (hsw _))
    fun S0 H0 B σ S H D g0 bb n o => ha H0 σ S H g0.sub n _ fun v1 S1 H1 g1 r1 => hb H0 σ S1 H1 g1.sub (n.go g1) _ fun v2 S2 H2 g2 r2 =>
      ⟨v1, v2, rfl, o.nx _ _ S2 H2 q ((g0.tr g1).tr g2) (bb.tr (g1.s.tr g2.s)) ((((n.go g1).go g2).set (r1.up g2.s)).set r2)⟩
/-- a target of any form, where the scope decides about the order of the stores -/
theorem ds_asgS {is : List Nat} {tg : Expr} {ρ' : Rho} {d : DV} (h : DE g l e ρ d) (hg : DG g l tg is d ρ ρ') (q : E.nx ρ') (hs : ∀ env, swapsWithSole [tg] e pos.line env = pure false := by intro _; rfl) (hw : ∀ env, env.scope = l.sc → swappedStores [tg] e env = pure none := by intro env h; cases env; cases h; rfl)
    (h1 : ∀ env, (assignEach [tg] env).map (·.2) = [assign tg env] := by intro _; rfl) : DS g l (.Assign [tg] e pos) ρ E :=
  DS.by _ (fun X o => ps_asg (UE.pe o e) (UG.pg o tg) (hs _) (hw _ o.sc) (h1 _)) (st_asgG h hg.tg q)
end
end PD

/-! Dicts of the data layer: the rules by syntax. -/
namespace PD
open PySem PySem.Spec PyProof.Rows L2 MX
/-! d[k], k in d, d.get(k), d.get(k, x) by values -/
section
variable {X : Cx} {o i e f : Expr} {pos apos cpos : Pos} {td ty tx : TE}
end
/-! .. as data -/
section
variable {K : PySem.W.Frag} {w : World} {ρ : Rho} {td ty tx : TE} {ks vs : List DV} {d dx v : DV}
end
end PD

/-! Dicts made: {}, {k: v}, dict(zip(a, b)); list(d). -/
namespace PD
open PySem PySem.Spec PyProof.Rows L2 MX
section
variable {X : Cx} {pos p p2 pos2 : Pos}
end
end PD

/-! dict(zip(a, b)), a a list of tuples that are keys. -/
namespace PD
open PySem PySem.Spec PyProof.Rows L2 MX
section
variable {K : PySem.W.Frag} {S : Hp}
end
end PD

/-! Dicts: the rules by syntax. -/
namespace PD
open PySem PySem.Spec PyProof.Rows L2 MX
section
variable {g : Gb} {l : Lc} {ρ : Rho} {a b e f x y kx vx tg iter : Expr} {ifs : List Expr} {pos p p2 pos2 apos cpos : Pos} {ks vs : List DV} {d dx v : DV} {scope : Scope} {own : List (Str × Nat)} {ds : List DV}
end
end PD

/-! The program's data, and what its defs compute, as plain functions. -/
namespace SP
open PySem L2 PD
theorem filt {α : Type} (l : List α) : (l.filter fun _ => true) = l := List.filter_eq_self.mpr fun _ _ => rfl
/-! data that a def may be handed: no instances, no text or row that is too long -/
mutual
def fit : DV → Bool
  | .non => true | .bl _ => true | .int _ => true | .str x => decide (x.length ≤ 100000)
  | .tup xs => decide (xs.length ≤ 100000) && fits xs | .lst xs => decide (xs.length ≤ 100000) && fits xs | .obj _ _ => false | .frz _ => false | .dct _ _ _ => false | .tks _ _ => false | .adr _ => false
def fits : List DV → Bool
  | [] => true
  | d :: ds => fit d && fits ds
end
theorem fit_obj {v : DV} (h : fit v = true) : v.isObj = false := by
  cases v <;> first | rfl | (rw [fit] at h; cases h)
theorem fit_str {z : Str} (h : fit (.str z) = true) : z.length ≤ 100000 := by
  rw [fit] at h
  exact of_decide_eq_true h
theorem fit_tup {xs : List DV} (h : fit (.tup xs) = true) : xs.length ≤ 100000 ∧ fits xs = true := by
  rw [fit, Bool.and_eq_true] at h
  exact ⟨of_decide_eq_true h.1, h.2⟩
theorem fits_mem : ∀ {xs : List DV} {d : DV}, fits xs = true → d ∈ xs → fit d = true
  | [], _, _, h => by cases h
  | x :: xs, d, h, hm => by
    rw [fits, Bool.and_eq_true] at h
    rcases List.mem_cons.mp hm with rfl | hm
    · exact h.1
    · exact fits_mem h.2 hm
/-! words, pieces, texts -/
def codeOk (ls : Str) (c : Nat) : Bool := decide (c ∈ ls.cps.toList)
def wordOk (ls : Str) (m : Nat) (z : Str) : Bool := decide (z.length ≤ m) && z.cps.toList.all (codeOk ls)
def isNum : DV → Bool
  | .int _ => true | _ => false
def isWord (ls : Str) (m : Nat) : DV → Bool
  | .str z => wordOk ls m z | _ => false
def isBlock (n : Nat) : DV → Bool
  | .int i => decide (0 ≤ i) && decide (i < n) | _ => false
def isOrder (n : Nat) : DV → Bool
  | .tup xs => decide (xs.length ≤ 3) && xs.all (isBlock n) | _ => false
/-! states, writes -/
def psD (ps : List Str) : List DV := ps.map DV.str
def odD (od : List Nat) : List DV := od.map fun (b : Nat) => DV.int (b : Int)
def stD (ps : List Str) (od : List Nat) : DV := .tup [.tup (psD ps), .tup (odD od)]
theorem psD_len (ps : List Str) : (psD ps).length = ps.length := List.length_map ..
theorem odD_len (od : List Nat) : (odD od).length = od.length := List.length_map ..
theorem psD_get {ps : List Str} {i : Nat} {p : Str} (h : ps[i]? = some p) : (psD ps)[i]? = some (.str p) := by
  unfold psD
  rw [List.getElem?_map, h]
  rfl
inductive Wr where
  | piece (b : Nat) (p : Str) | order (o : List Nat)
  deriving DecidableEq
def Wr.d : Wr → DV
  | .piece b p => .tup [.str "piece", .int b, .str p]
  | .order o => .tup [.str "order", .tup (odD o)]
def isWr (ls : Str) (ps : List Str) (od : List Nat) : DV → Bool
  | .tup [.str a, b] => decide (a = "order") && isOrder ps.length b && !b.eqv (.tup (odD od))
  | .tup [.str a, b, c] => decide (a = "piece") && isBlock ps.length b && isWord ls 2 c && !(match b, c with | .int i, .str z => decide (z = ps.getD i.toNat ⟨#[]⟩) | _, _ => false)
  | _ => false
theorem eqvAll_odD : ∀ a b : List Nat, PyData.eqvAll (pdAll (odD a)) (pdAll (odD b)) = decide (a = b)
  | [], [] => by simp [odD, pdAll, PyData.eqvAll]
  | [], _ :: _ => by simp [odD, pdAll, PyData.eqvAll]
  | _ :: _, [] => by simp [odD, pdAll, PyData.eqvAll]
  | x :: a, y :: b => by
    have ih := eqvAll_odD a b
    show PyData.eqvAll (DV.pd (.int (x : Int)) :: pdAll (odD a)) (DV.pd (.int (y : Int)) :: pdAll (odD b)) = _
    rw [PyData.eqvAll, ih, DV.pd, DV.pd, PyData.eqv, Bool.eq_iff_iff]
    simp
    intro _
    omega
theorem eqv_odD (a b : List Nat) : (DV.tup (odD a)).eqv (.tup (odD b)) = decide (a = b) := by
  show PyData.eqv (DV.pd _) (DV.pd _) = _
  rw [DV.pd, DV.pd, PyData.eqv, eqvAll_odD]
theorem plain_odD : ∀ a : List Nat, plainAll (odD a) = true
  | [] => by simp [odD, plainAll]
  | x :: a => by
    show plainAll (DV.int (x : Int) :: odD a) = true
    rw [plainAll, plain_odD a, DV.plain]
    rfl
theorem dep_odD : ∀ a : List Nat, depAll (odD a) = 0
  | [] => by simp [odD, depAll]
  | x :: a => by
    show depAll (DV.int (x : Int) :: odD a) = 0
    rw [depAll, dep_odD a, DV.dep]
    rfl
theorem ok_odD (a : List Nat) : (DV.tup (odD a)).ok = true := by
  unfold DV.ok
  rw [DV.plain, plain_odD, DV.dep, dep_odD]
  rfl
theorem isOrder_form {n : Nat} {v : DV} (h : isOrder n v = true) : ∃ o : List Nat, v = .tup (odD o) ∧ o.length ≤ 3 ∧ ∀ b ∈ o, b < n := by
  cases v with
  | tup xs =>
    unfold isOrder at h
    rw [Bool.and_eq_true] at h
    obtain ⟨h1, h2⟩ := h
    have go : ∀ xs : List DV, xs.all (isBlock n) = true → ∃ o : List Nat, xs = odD o ∧ ∀ b ∈ o, b < n := by
      intro xs
      induction xs with
      | nil => intro _; exact ⟨[], rfl, fun b hb => by cases hb⟩
      | cons x xs ih =>
        intro h
        rw [List.all_cons, Bool.and_eq_true] at h
        obtain ⟨o, e, f⟩ := ih h.2
        cases x with
        | int i =>
          have h3 := h.1
          unfold isBlock at h3
          rw [Bool.and_eq_true, decide_eq_true_eq, decide_eq_true_eq] at h3
          refine ⟨i.toNat :: o, ?_, fun b hb => ?_⟩
          · rw [e]
            show _ = DV.int ((i.toNat : Nat) : Int) :: odD o
            rw [Int.toNat_of_nonneg h3.1]
          · rcases List.mem_cons.mp hb with rfl | hb
            · omega
            · exact f b hb
        | _ => exact absurd h.1 (by simp [isBlock])
    obtain ⟨o, e, f⟩ := go xs h2
    refine ⟨o, by rw [e], ?_, f⟩
    have := of_decide_eq_true h1
    rw [e, odD_len] at this
    exact this
  | _ => simp [isOrder] at h
theorem isOrder_of {n : Nat} {o : List Nat} (h : o.length ≤ 3) (f : ∀ b ∈ o, b < n) : isOrder n (.tup (odD o)) = true := by
  unfold isOrder
  rw [Bool.and_eq_true, odD_len]
  refine ⟨decide_eq_true h, ?_⟩
  rw [List.all_eq_true]
  intro d hd
  unfold odD at hd
  rw [List.mem_map] at hd
  obtain ⟨b, hb, rfl⟩ := hd
  unfold isBlock
  rw [Bool.and_eq_true]
  exact ⟨decide_eq_true (by omega), decide_eq_true (by have := f b hb; omega)⟩
/-! contents -/
/-- all pieces of some letters, all orders of n blocks -/
def letterSet (ls : Str) : Prop := ls = "ab" ∨ ls = "abc"
def onesS (ls : Str) : List Str := ls.cps.toList.map fun c => ⟨#[c]⟩
def piecesOf (ls : Str) : List Str := [⟨#[]⟩] ++ onesS ls ++ (onesS ls).flatMap fun a => (onesS ls).map fun b => a ++ b
def onesO (n : Nat) : List (List Nat) := (List.range n).map fun b => [b]
def ordersOf (n : Nat) : List (List Nat) := [[]] ++ onesO n ++ ((onesO n).flatMap fun a => (onesO n).map fun b => a ++ b) ++ (((onesO n).flatMap fun a => (onesO n).map fun b => a ++ b).flatMap fun a => (onesO n).map fun b => a ++ b)
def oD (o : List Nat) : DV := .tup (odD o)
/-! all writes -/
def writesOf (ls : Str) (ps : List Str) (od : List Nat) : List Wr :=
  (ps.zipIdx.flatMap fun p => ((piecesOf ls).filter fun n => !decide (n = p.1)).map fun n => Wr.piece p.2 n) ++ ((ordersOf ps.length).filter fun o => !decide (o = od)).map Wr.order
def orderNew (od : List Nat) (c : DV) : Bool := !c.eqv (.tup (odD od))
def orderWr (c : DV) : DV := .tup [.str "order", c]
theorem writes_orders (n : Nat) (od : List Nat) : (((ordersOf n).map oD).filter (orderNew od)).map orderWr = (((ordersOf n).filter fun o => !decide (o = od)).map Wr.order).map Wr.d := by
  rw [List.map_map, List.filter_map, List.map_map]
  have e : (orderNew od ∘ oD) = fun o => !decide (o = od) := by
    funext o
    show (!(DV.tup (odD o)).eqv (.tup (odD od))) = _
    rw [eqv_odD]
  rw [e]
  rfl
theorem piecesOf_len {ls : Str} (h : letterSet ls) : (piecesOf ls).length ≤ 13 := by rcases h with rfl | rfl <;> decide +kernel
theorem ordersOf_len {n : Nat} (h : n ≤ 4) : (ordersOf n).length ≤ 85 := by
  have : ∀ n ≤ 4, (ordersOf n).length ≤ 85 := by decide +kernel
  exact this n h
/-! texts -/
def catS (l : List Str) : Str := l.foldl (· ++ ·) ⟨#[]⟩
def textOf (ps : List Str) (od : List Nat) : Str := catS (od.map fun b => ps.getD b ⟨#[]⟩)
theorem nil_app (x : Str) : (⟨#[]⟩ : Str) ++ x = x := Str.ext' (by show #[] ++ x.cps = x.cps; simp)
theorem app_nil (x : Str) : x ++ (⟨#[]⟩ : Str) = x := Str.ext' (by show x.cps ++ #[] = x.cps; simp)
theorem app_assoc (x y z : Str) : x ++ y ++ z = x ++ (y ++ z) := Str.ext' (by show x.cps ++ y.cps ++ z.cps = x.cps ++ (y.cps ++ z.cps); simp)
theorem foldl_app (l : List Str) (a : Str) : l.foldl (· ++ ·) a = a ++ catS l := by
  induction l generalizing a with
  | nil => exact (app_nil a).symm
  | cons x l ih =>
    show l.foldl (· ++ ·) (a ++ x) = a ++ (l.foldl (· ++ ·) (⟨#[]⟩ ++ x))
    rw [ih, nil_app, ih x, app_assoc]
theorem catS_cons (x : Str) (l : List Str) : catS (x :: l) = x ++ catS l := by
  show l.foldl (· ++ ·) (⟨#[]⟩ ++ x) = _
  rw [nil_app, foldl_app]
theorem join_cat' : ∀ l : List Str, Str.join ⟨#[]⟩ l = catS l
  | [] => rfl
  | [x] => by rw [catS_cons]; exact (app_nil x).symm
  | x :: y :: l => by
    have ih := join_cat' (y :: l)
    rw [catS_cons, ← ih]
    show x ++ ⟨#[]⟩ ++ Str.join ⟨#[]⟩ (y :: l) = _
    rw [app_nil]
theorem join_cat (l : List Str) : Txt.join ⟨#[]⟩ l = catS l := (eq_of_beq (PyProof.Rows.join_plain_closes ⟨#[]⟩ l)).trans (join_cat' l)
theorem catS_len (l : List Str) : (catS l).length = (l.map (·.length)).sum := by
  induction l with
  | nil => rfl
  | cons x l ih => rw [catS_cons, Str.length_append, ih, List.map_cons, List.sum_cons]
theorem sum_le {l : List Nat} {m : Nat} (h : ∀ x ∈ l, x ≤ m) : l.sum ≤ l.length * m := by
  induction l with
  | nil => simp
  | cons x l ih =>
    have h1 := h x (List.mem_cons_self ..)
    have h2 := ih fun y hy => h y (List.mem_cons_of_mem _ hy)
    rw [List.sum_cons, List.length_cons, Nat.succ_mul]
    omega
end SP

/-! A text replaced by each item of a list whose texts' identities are known: {x: y.replace(G, x) for x in ..}. -/
namespace PD
open PySem PySem.Spec PyProof.Rows L2 MX
open Sem (wp)
section
variable {X : Cx} {pins : List (Addr × Obj)} {σ : L2.St} {H : Hp} {s : Shared}
end
section
variable {X : Cx} {iter : Expr} {scope : Scope} {own : List (Str × Nat)} {x y G : Str} {ix j : Nat} {c : Str} {tc : Tok} {ti : TE} {px py pg pk pt apos cpos pos : Pos}
end
end PD

/-! The same by syntax; dicts whose keys are unlike. -/
namespace PD
open PySem PySem.Spec PyProof.Rows L2 MX
section
variable {g : Gb} {l : Lc} {ρ : Rho} {iter : Expr} {scope : Scope} {own : List (Str × Nat)} {x y G : Str} {ix j n : Nat} {c q : Str} {zs : List Str} {tc : Tok} {px py pg pk pt apos cpos pos : Pos}
/-! unlike keys -/
end
end PD

/-! One's own list of texts whose identities are all from n on. -/
namespace PD
open PySem PySem.Spec PyProof.Rows L2
section
variable {X : Cx} {pins : List (Addr × Obj)} {σ : L2.St} {H : Hp} {s : Shared} {p : Addr} {n : Nat} {zs : List Str}
end
end PD

/-! [c + d for c in zs for d in ys], texts whose identities are from n on. -/
namespace PD
open PySem PySem.Spec PyProof.Rows L2
section
variable {X : Cx} {scope : Scope} {own : List (Str × Nat)} {c d : Str} {ic id n : Nat} {p1 p2 p3 p4 p5 p6 p7 pos : Pos} {iter0 : Expr} {it2 : Str}
end
end PD

namespace PD
open PySem PySem.Spec PyProof.Rows L2
section
variable {X : Cx} {pins : List (Addr × Obj)} {σ : L2.St} {H : Hp} {s : Shared} {p : Addr} {n : Nat} {zs : List Str}
end
end PD

/-! Statements from states in which at least n identities have been given out. -/
namespace PD
open PySem PySem.Spec PyProof.Rows L2
theorem thnN {α : Type} {t : Sem α} {Q Q' : α → Shared → Prop} {M : Model} {A : Around} {E : Value → Shared → Prop} {s : Shared} {n : Nat} (hn : n ≤ s.toks) (h : wpAny M A t Q E s) (k : ∀ a s', n ≤ s'.toks → Q a s' → Q' a s') : wpAny M A t Q' E s :=
  wpAny_mono (wpAny_toks_of hn h) (fun a s' q => k a s' q.1 q.2) fun _ _ q => q.2
structure SN (X : Cx) (n : Nat) (st : Stmt) (t : TS) : Prop where
  run : ∀ (pins : List (Addr × Obj)) (s : Shared) (σ : L2.St) (H : Hp) (D : Ends), n ≤ s.toks → Inv X pins σ H s → t D σ H → wpAny (model X.prog X.w) X.A (exec st X.env) (SP X pins D) X.xe s
structure SsN (X : Cx) (n : Nat) (sts : List Stmt) (t : TS) : Prop where
  run : ∀ (pins : List (Addr × Obj)) (s : Shared) (σ : L2.St) (H : Hp) (D : Ends), n ≤ s.toks → Inv X pins σ H s → t D σ H → wpAny (model X.prog X.w) X.A (execs sts X.env) (SP X pins D) X.xe s
section
variable {X : Cx} {n : Nat} {st : Stmt} {rest : List Stmt} {t u : TS}
theorem SN.of (h : PS X st t) : SN X n st t := ⟨fun pins s σ H D _ I q => h.run pins s σ H D I q⟩
theorem SsN.of (h : PSs X rest t) : SsN X n rest t := ⟨fun pins s σ H D _ I q => h.run pins s σ H D I q⟩
theorem sn_cons (a : SN X n st t) (b : SsN X n rest u) : SsN X n (st :: rest) (tSeq t u) := ⟨fun pins s σ H D ht I q =>
  wpAny_execs_cons (thnN ht (a.run pins s σ H { D with nx := u D } ht I q) fun f s1 ht1 w => by
    cases f with
    | next =>
      obtain ⟨σ1, H1, I1, q1⟩ := w
      exact b.run pins s1 σ1 H1 D ht1 I1 q1
    | ret v => exact w
    | brk => exact w
    | cont => exact w)⟩
/-- for, the bound kept -/
theorem sn_for {tg iter : Expr} {body : List Stmt} {wi : TI} {g : TG} {tb : TS} {pos : Pos} (hp : PassesOwn (model X.prog X.w) X.A X.env X.xe) (hc : X.calm = true) (hi : PI X tg iter wi) (hg : PG X tg g) (hb : SsN X n body tb) (hs : ∀ x, foldedSetIterable iter X.env x = pure x := by intro _; rfl) :
    SN X n (.For tg iter body [] pos) (tFor wi g tb) := by
  refine ⟨fun pins s σ H D ht I h => ?_⟩
  refine wpAny_For (thnN ht (hi.run pins s σ H _ I h) fun v s1 ht1 w1 => thnN ht1 w1 fun itv s2 ht2 w2 => ?_) hs
  obtain ⟨it, fp, tn, J, H2, rfl, I2, T, st2, free2, W, ⟨m0, w0⟩, turn⟩ := w2
  have mine : ∀ {H' : Hp}, (∀ b ∈ fp, H' b = none) → ∀ b ∈ fp, FpOk X pins H' b := fun z b hb => ⟨z b hb, (free2 b hb).2⟩
  refine codeAny_forLoop_any (fun m s' => n ≤ s'.toks ∧ ∃ i σ' H', Inv X pins σ' H' s' ∧ tn i s'.heap ∧ (∀ b ∈ fp, H' b = none) ∧ W i m σ' H') (fun m s3 ⟨ht3, i, σ3, H3, I3, st3, z3, w3⟩ => ?_) m0 ⟨ht2, 0, σ, H2, I2, st2, fun b hb => (free2 b hb).1, w0⟩
  rcases turn i m σ3 H3 w3 with ⟨stop, qn⟩ | ⟨go, Nx, hNx, step⟩
  · refine wpAny_passesOwn hp (thnN ht3 (T.done X rfl rfl rfl hc i pins s3 σ3 H3 X.xe I3 (mine z3) st3 stop) fun r s4 ht4 ⟨er, I4⟩ => ?_)
    subst er
    exact wpAny_execs_nil ⟨σ3, H3, I4, qn⟩
  · refine wpAny_passesOwn hp (thnN ht3 (T.item X rfl rfl rfl hc i pins s3 σ3 H3 X.xe I3 (mine z3) st3 go) fun r s4 ht4 ⟨u, er, w4⟩ => ?_)
    subst er
    refine wpAny_passesOwn hp (thnN ht4 w4 fun _ s5 ht5 ⟨x, H5, I5, r5, y5, st5, z5⟩ => ?_)
    refine wpAny_passesOwn hp (thnN ht5 (hg.run _ s5 σ3 H5 x u _ (I5.pinned (mine z5) (T.obj _ _ st5)) r5 (step x H5 y5)) fun _ s6 ht6 ⟨σ6, H6, I6, q6⟩ => ?_)
    refine wpAny_passesOwn hp (thnN ht6 (hb.run _ s6 σ6 H6 _ ht6 I6 q6) fun f s7 ht7 q7 => ?_)
    have over : ∀ {σ7 : L2.St} {H7 : Hp}, Inv X (pins ++ pinsAt fp s5.heap) σ7 H7 s7 → Nx σ7 H7 → ∃ k, k < m ∧ n ≤ s7.toks ∧ ∃ i σ' H', Inv X pins σ' H' s7 ∧ tn i s7.heap ∧ (∀ b ∈ fp, H' b = none) ∧ W i k σ' H' := fun {σ7 H7} I7 n7 => by
      obtain ⟨k, hk, w7⟩ := hNx σ7 H7 n7
      have kept : ∀ b ∈ fp, ∀ o, s5.heap.get? b = some o → s7.heap.get? b = some o ∧ H7 b = none := fun b hb o e =>
        let z := I7.pin (b, o) (List.mem_append_right _ (List.mem_append_right _ (mem_pinsAt hb e)))
        ⟨z.1, z.2.1⟩
      exact ⟨k, hk, ht7, i + 1, σ7, H7, I7.unpinned, T.keep _ _ _ st5 fun b hb o e => (kept b hb o e).1, fun b hb => let ⟨o, e, _⟩ := T.obj _ _ st5 b hb; (kept b hb o e).2, w7⟩
    cases f with
    | next => obtain ⟨σ7, H7, I7, n7⟩ := q7; exact over I7 n7
    | cont => obtain ⟨σ7, H7, I7, n7⟩ := q7; exact over I7 n7
    | brk => obtain ⟨σ7, H7, I7, q7⟩ := q7; exact ⟨σ7, H7, I7.unpinned, q7⟩
    | ret v => obtain ⟨x7, σ7, H7, I7, r7, q7⟩ := q7; exact ⟨x7, σ7, H7, I7.unpinned, r7, q7⟩
end
end PD

namespace SP
open PySem PySem.Spec PyProof.Rows L2 PD
/-- the module's numbers -/
structure Cs (g : Gb) : Prop where
  pl : ∃ t, g.mg "PIECE_LETTERS" = some (.int 2 t)
  ob : ∃ t, g.mg "ORDER_BLOCKS" = some (.int 3 t)
  tl : ∃ t, g.mg "TEXT_LETTERS" = some (.int 6 t)
variable {g : Gb}
theorem scNumber : FnScope ["value"] ["value"] (defScope sNumber) := ⟨rfl, rfl, rfl, by decide +kernel, rfl, by decide +kernel, by decide +kernel⟩
def R_number : List DV → DV → Prop := fun ds d => ∃ v, ds = [v] ∧ v.isObj = false ∧ d = .bl (isNum v)
theorem ok_number (B : Bt g) {f : Addr} {fd : FuncData} (F : Fun g.K "is_number" "is_number" sNumber f fd) : FnOk g.P g.w g.K g.mg g.base CX0 1 f fd ["value"] (spR g.K R_number) := by
  refine fn_ok F scNumber (fun ds d ⟨v, e, _⟩ => by rw [e]; rfl) fun ds d ⟨v, e, hk, ed⟩ => ?_
  subst e ed
  refine dss_one (ds_ret (de_and (de_isInt B hk (de_v 0)) fun _ => de_one (de_not (de_isBool B hk (de_v 0)))) ?_)
  cases v <;> rfl
theorem scWord : FnScope ["letters", "most", "value", "letter"] ["letters", "most", "value"] (defScope sWord) := ⟨rfl, rfl, rfl, by decide +kernel, rfl, by decide +kernel, by decide +kernel⟩
def R_word : List DV → DV → Prop := fun ds d => ∃ (ls : Str) (m : Nat) (v : DV), ds = [.str ls, .int m, v] ∧ fit v = true ∧ d = .bl (isWord ls m v)
theorem ok_word (B : Bt g) {f : Addr} {fd : FuncData} (F : Fun g.K "is_word" "is_word" sWord f fd) : FnOk g.P g.w g.K g.mg g.base CX0 1 f fd ["letters", "most", "value"] (spR g.K R_word) := by
  refine fn_ok F scWord (fun ds d ⟨ls, m, v, e, _⟩ => by rw [e]; rfl) fun ds d ⟨ls, m, v, e, hf, ed⟩ => ?_
  subst e ed
  have hk := fit_obj hf
  cases v with
  | str z =>
    have hz := fit_str hf
    refine dss_one (ds_ret (de_and (x := true) (de_isStr B hk (de_v 2)) fun _ => de_and (de_leI (de_lenS B.len hz (de_v 2)) (de_v 1)) fun _ => de_one (de_all (bs := z.cps.toList.map (codeOk ls)) B.all (DE.is (dl_rL (own := [("letter", 3)]) scWord.nd (by decide +kernel) (rL.ev (is := [3]) (di_s (de_v 2)) ?_ (by decide)
      (fun d => [.val (.str ls), .val (.int m), .val (.str z), .val d]) (fun _ => true) (fun d => match d with | .str x => .bl (codeOk ls x.cps[0]!) | _ => .non) (fun d hd => dg_n 3 scWord.nd) (fun d hd => dts_nil) (fun d hd _ => ?_))).de ?_))) ?_)
    · unfold signD
      rw [List.length_map, Array.length_toList]
      exact hz
    · unfold signD at hd
      rw [List.mem_map] at hd
      obtain ⟨c, hc, rfl⟩ := hd
      exact de_inSign (de_v 3) (de_v 0)
    · unfold signD
      rw [filt, List.map_map, List.map_map]
      rfl
    · show DV.bl _ = DV.bl _
      congr 1
      show (true && (decide ((z.length : Int) ≤ (m : Int)) && ((z.cps.toList.map (codeOk ls)).all id))) = wordOk ls m z
      unfold wordOk
      rw [List.all_map, Bool.true_and]
      congr 1
      exact decide_eq_decide.mpr (by omega)
  | _ => exact dss_one (ds_ret (de_and (x := false) (y := true) (de_isStr B hk (de_v 2)) fun z => by cases z) rfl)
theorem scPiece : FnScope ["letters", "value"] ["letters", "value"] (defScope sPiece) := ⟨rfl, rfl, rfl, by decide +kernel, rfl, by decide +kernel, by decide +kernel⟩
def R_piece : List DV → DV → Prop := fun ds d => ∃ (ls : Str) (v : DV), ds = [.str ls, v] ∧ fit v = true ∧ d = .bl (isWord ls 2 v)
theorem ok_piece (C : Cs g) (W : Fn g 1 "is_word" R_word) {f : Addr} {fd : FuncData} (F : Fun g.K "is_piece" "is_piece" sPiece f fd) : FnOk g.P g.w g.K g.mg g.base CX0 2 f fd ["letters", "value"] (spR g.K R_piece) := by
  refine fn_ok F scPiece (fun ds d ⟨ls, v, e, _⟩ => by rw [e]; rfl) fun ds d ⟨ls, v, e, hf, ed⟩ => ?_
  subst e ed
  obtain ⟨t, ht⟩ := C.pl
  exact dss_one (ds_ret (de_call W (da_cons (de_v 0) (da_cons (de_gl (v := .int 2) ht ⟨t, rfl⟩ fun S => .int 2) (da_cons (de_v 1) da_nil))) ⟨ls, 2, v, rfl, hf, rfl⟩) rfl)
theorem scText : FnScope ["letters", "value"] ["letters", "value"] (defScope sText) := ⟨rfl, rfl, rfl, by decide +kernel, rfl, by decide +kernel, by decide +kernel⟩
def R_text : List DV → DV → Prop := fun ds d => ∃ (ls : Str) (v : DV), ds = [.str ls, v] ∧ fit v = true ∧ d = .bl (isWord ls 6 v)
theorem ok_text (C : Cs g) (W : Fn g 1 "is_word" R_word) {f : Addr} {fd : FuncData} (F : Fun g.K "is_text" "is_text" sText f fd) : FnOk g.P g.w g.K g.mg g.base CX0 2 f fd ["letters", "value"] (spR g.K R_text) := by
  refine fn_ok F scText (fun ds d ⟨ls, v, e, _⟩ => by rw [e]; rfl) fun ds d ⟨ls, v, e, hf, ed⟩ => ?_
  subst e ed
  obtain ⟨t, ht⟩ := C.tl
  exact dss_one (ds_ret (de_call W (da_cons (de_v 0) (da_cons (de_gl (v := .int 6) ht ⟨t, rfl⟩ fun S => .int 6) (da_cons (de_v 1) da_nil))) ⟨ls, 6, v, rfl, hf, rfl⟩) rfl)
theorem scBlock : FnScope ["blocks", "value"] ["blocks", "value"] (defScope sBlock) := ⟨rfl, rfl, rfl, by decide +kernel, rfl, by decide +kernel, by decide +kernel⟩
def R_block : List DV → DV → Prop := fun ds d => ∃ (n : Nat) (v : DV), ds = [.int n, v] ∧ fit v = true ∧ d = .bl (isBlock n v)
theorem ok_block (N : Fn g 1 "is_number" R_number) {f : Addr} {fd : FuncData} (F : Fun g.K "is_block" "is_block" sBlock f fd) : FnOk g.P g.w g.K g.mg g.base CX0 2 f fd ["blocks", "value"] (spR g.K R_block) := by
  refine fn_ok F scBlock (fun ds d ⟨n, v, e, _⟩ => by rw [e]; rfl) fun ds d ⟨n, v, e, hf, ed⟩ => ?_
  subst e ed
  have hk := fit_obj hf
  cases v with
  | int i => exact dss_one (ds_ret (de_and (x := true) (de_call N (da_cons (de_v 1) da_nil) ⟨_, rfl, hk, rfl⟩) fun _ => de_one (de_leLt de_int (de_v 1) (de_v 0))) rfl)
  | _ => exact dss_one (ds_ret (de_and (x := false) (y := true) (de_call N (da_cons (de_v 1) da_nil) ⟨_, rfl, hk, rfl⟩) fun z => by cases z) rfl)
theorem scOrder : FnScope ["blocks", "value", "block"] ["blocks", "value"] (defScope sOrder) := ⟨rfl, rfl, rfl, by decide +kernel, rfl, by decide +kernel, by decide +kernel⟩
def R_order : List DV → DV → Prop := fun ds d => ∃ (n : Nat) (v : DV), ds = [.int n, v] ∧ fit v = true ∧ d = .bl (isOrder n v)
theorem ok_order (B : Bt g) (C : Cs g) (Bl : Fn g 2 "is_block" R_block) {f : Addr} {fd : FuncData} (F : Fun g.K "is_order" "is_order" sOrder f fd) : FnOk g.P g.w g.K g.mg g.base CX0 3 f fd ["blocks", "value"] (spR g.K R_order) := by
  refine fn_ok F scOrder (fun ds d ⟨n, v, e, _⟩ => by rw [e]; rfl) fun ds d ⟨n, v, e, hf, ed⟩ => ?_
  subst e ed
  have hk := fit_obj hf
  obtain ⟨t, ht⟩ := C.ob
  cases v with
  | tup xs =>
    obtain ⟨hl, hfs⟩ := fit_tup hf
    refine dss_cons (ds_if (x := decide (3 < xs.length)) (DT.is (dt_w (dw_or (dt_not (dt_e (de_isTup B hk (de_v 1)))) fun _ => dw_or1 (dt_gtI (de_len B.len rfl (de_v 1)) (de_gl (v := .int 3) ht ⟨t, rfl⟩ fun S => .int 3)))) ?_) (fun h => dss_one (ds_ret de_bl ?_)) fun h => dss_nil ?_)
    · show (false || decide ((3 : Int) < (xs.length : Int))) = _
      rw [Bool.false_or]
      exact decide_eq_decide.mpr (by omega)
    · have := of_decide_eq_true h
      show DV.bl false = .bl (decide (xs.length ≤ 3) && _)
      rw [decide_eq_false (by omega)]
      rfl
    · refine dss_one (ds_ret (de_all (bs := xs.map (isBlock n)) B.all (DE.is (dl_rL (own := [("block", 2)]) scOrder.nd (by decide +kernel) (rL.ev (is := [2]) (di_t (de_v 1)) hl (by decide)
        (fun d => [.val (.int n), .val (.tup xs), .val d]) (fun _ => true) (fun d => .bl (isBlock n d)) (fun d hd => dg_n 2 scOrder.nd) (fun d hd => dts_nil) (fun d hd _ => de_call Bl (da_cons (de_v 0) (da_cons (de_v 2) da_nil)) ⟨n, d, rfl, fits_mem hfs hd, rfl⟩))).de ?_)) ?_)
      · rw [filt, List.map_map]
        rfl
      · have := of_decide_eq_false h
        show DV.bl _ = .bl (decide (xs.length ≤ 3) && _)
        rw [decide_eq_true (by omega), List.all_map]
        rfl
  | _ => exact dss_cons (ds_if (x := true) (dt_w (dw_or (x := true) (y := true) (dt_not (dt_e (de_isTup B hk (de_v 1)))) fun z => by cases z)) (fun h => dss_one (ds_ret de_bl rfl)) fun h => by cases h)
end SP

namespace SP
open PySem PySem.Spec PyProof.Rows L2 PD
variable {g : Gb}
theorem _root_.PD.EvL.is {K : PySem.W.Frag} {te : TE} {ρ : Rho} {ds ds' : List DV} (h : EvL K te ρ ds) (e : ds = ds') : EvL K te ρ ds' := by rw [← e]; exact h
def wrsD (ws : List Wr) : DV := .lst (ws.map Wr.d)
end SP

/-! A def's body from the state of its call, its parameters known as they are. -/
namespace PD
open PySem PySem.Spec PyProof.Rows L2
theorem fn_raw {CX : CXT} {P : Program} {w : World} {K : PySem.W.Frag} {mg : Str → Option Value} {base : Heap} {k n : Nat} {f : Addr} {fd : FuncData} {x qual : Str} {st : Stmt} {N ps : List Str} {A : Around} {outer : List Env} {s : Shared} {H : Hp} {args : Args} {us : List Value} {vs : List V} {Q : VK} {E : XK}
    (F : Fun K x qual st f fd) (S : FnScope N ps (defScope st)) (hl : vs.length = ps.length) (hr : Room (k + 1) A) (e0 : Env0 P w K mg base A outer s H) (hb : BindsTo s fd args (ps.zip us)) (r : Vals vs us) (ht : n ≤ s.toks)
    (body : ∀ cdv s1, Room k (A.deeper (envOfC qual (defScope st) s.heap.objs.size f cdv)) → Inv (cxOf CX P w K mg base N qual (defScope st) f cdv A outer s H E) [] (start N vs) H s1 → n ≤ s1.toks →
      s1.heap.Ns (cxOf CX P w K mg base N qual (defScope st) f cdv A outer s H E).env.locals (bindL (envOfC qual (defScope st) s.heap.objs.size f cdv).kindOf (ps.zip us) fun _ => none) →
      wpAny (model P w) (cxOf CX P w K mg base N qual (defScope st) f cdv A outer s H E).A (execs (defBody st) (cxOf CX P w K mg base N qual (defScope st) f cdv A outer s H E).env) (SP (cxOf CX P w K mg base N qual (defScope st) f cdv A outer s H E) [] { nx := fun _ H' => Q .non H', rt := Q }) (cxOf CX P w K mg base N qual (defScope st) f cdv A outer s H E).xe s1) :
    codeAny (model P w) A (.call (.ref f) args) (CR CX outer P w H s Q E) s := by
  obtain ⟨oc, od, kV, doc, pm, an, cdv, ct, osl, rfl, lk, hcd⟩ := F.ex
  have KX : K.In s.heap := e0.mod.kin.keeps fun b o e => (e0.bs b o e).1
  have lim : s.heap.NoLimit := e0.mod.nolimit.keeps fun b o e => (e0.bs b o e).1
  have kinds : ∀ y ∈ ps.zip us, (defScope st).names.lookup y.1 = some .local ∨ ((defScope st).names.lookup y.1 = some .cell ∧ ((cellsFrom (s.heap.objs.size + 1) (defScope st).names []).lookup y.1).isSome = true) := fun ⟨m, v⟩ hy => by
    rcases S.par m (List.of_mem_zip hy).1 with q | q
    · exact .inl q
    · exact .inr ⟨q, PySem.W.cellsFrom_some _ _ _ (.inl q)⟩
  refine codeAny_call_function hr.depth (KX _ _ lk) rfl S.co S.gen rfl (PySem.W.codeRec_of KX hcd) (hb _ _ _ _ ?_)
  refine thnN ht (wpAny_newFunctionEnv_cells (Q := fun env s1 => env = newEnv (defScope st) s.heap.objs.size mainGlobals (cellsFrom (s.heap.objs.size + 1) (defScope st).names []) (qual ++ ".<locals>.") (some f) cdv none builtinsNs ∧ InCallC s env.locals (bindL env.kindOf (ps.zip us) fun _ => none) env.cells (bindC env.kindOf (ps.zip us) fun _ => none) s1) S.kind kinds fun env he s1 q => ⟨he, q⟩) fun env s1 t1 ⟨he, q⟩ => ?_
  subst he
  refine ⟨lim.keeps q.toInCall.keep, codeAny_func ?_⟩
  have I : Inv (cxOf CX P w K mg base N qual (defScope st) f cdv A outer s H E) [] (start N vs) H s1 := inv_start S hr.hd e0 hl r q
  refine wpAny_mono (body cdv s1 (hr.deeper _) I t1 q.toInCall.ns) (fun fl s' hs => ?_) fun e s' hs => hs
  have fin : ∀ {σ' : L2.St} {H' : Hp} {v : V} {u : Value}, Inv (cxOf CX P w K mg base N qual (defScope st) f cdv A outer s H E) [] σ' H' s' → RelV v u → Q v H' → CE outer P w H s Q u s' :=
    fun {σ' H' v u} J rv z => ⟨v, H', J.os, J.bare, J.base, J.hok, rv, z⟩
  cases fl with
  | ret u =>
    obtain ⟨v, σ', H', J, rv, z⟩ := hs
    exact fin J rv z
  | next =>
    obtain ⟨σ', H', J, z⟩ := hs
    exact fin (v := V.non) (u := Value.none) J rfl z
  | brk =>
    obtain ⟨_, _, _, z⟩ := hs
    exact False.elim z
  | cont =>
    obtain ⟨_, _, _, z⟩ := hs
    exact False.elim z
end PD

/-! contents("", ys, 2): the texts that come back are young. -/
namespace SP
open PySem PySem.Spec PyProof.Rows L2 PD
section
variable {X : Cx} {n : Nat} {b p : Addr} {o2 : Obj} {ys : List Str}
end
end SP

/-! list(text): the letters' identities are given out anew. -/
namespace PD
open PySem PySem.Spec PyProof.Rows L2
open Sem (wp)
section
variable {prog : Program} {w : World} {A : Around} {E : Value → Shared → Prop} {s : Shared} {n : Nat}
end
end PD

/-! all_pieces: the list that comes back is young. -/
namespace SP
open PySem PySem.Spec PyProof.Rows L2 PD
end SP

/-! Readings and promises from states in which at least n identities have been given out. -/
namespace PD
open PySem PySem.Spec PyProof.Rows L2
structure PN (X : Cx) (n : Nat) (e : Expr) (t : TE) : Prop where
  run : ∀ (pins : List (Addr × Obj)) (s : Shared) (σ : L2.St) (H : Hp) (Q : VK), n ≤ s.toks → Inv X pins σ H s → t σ H Q → wpAny (model X.prog X.w) X.A (eval e X.env) (EP X pins σ Q) X.xe s
theorem PN.of {X : Cx} {n : Nat} {e : Expr} {t : TE} (h : PE X e t) : PN X n e t := ⟨fun pins s σ H Q _ I q => h.run pins s σ H Q I q⟩
structure FnOkN (P : Program) (w : World) (K : PySem.W.Frag) (mg : Str → Option Value) (base : Heap) (CX : CXT) (k n : Nat) (f : Addr) (fd : FuncData) (ps : List Str) (sp : Sp) : Prop where
  len : ∀ vs H Q E, sp vs H Q E → vs.length = ps.length
  run : ∀ (A : Around) (outer : List Env) (s : Shared) (H : Hp) (args : Args) (us : List Value) (vs : List V) (Q : VK) (E : XK), Room k A → Env0 P w K mg base A outer s H → n ≤ s.toks → BindsTo s fd args (ps.zip us) → Vals vs us → sp vs H Q E →
    codeAny (model P w) A (.call (.ref f) args) (CR CX outer P w H s Q E) s
section
variable {X : Cx} {CX : CXT} {k n : Nat} {f : Addr} {fd : FuncData} {ps : List Str} {sp : Sp} {E : XK} {x : Str} {p pos : Pos} {e : Expr} {es : List Expr} {t : TA}
theorem run_fnN {pins : List (Addr × Obj)} {σ : L2.St} {H : Hp} {s : Shared} {Q : VK} {us : List Value} {vs : List V} (F : FnOkN X.prog X.w X.K X.mg X.base CX k n f fd ps sp) (hr : Room k X.A) (hb : Binds X.K fd ps []) (hx : Passes CX X E) (ht : n ≤ s.toks)
    (I : Inv X pins σ H s) (r : Vals vs us) (h : sp vs H Q E) : wpAny (model X.prog X.w) X.A (call (.ref f) us) (EP X pins σ Q) X.xe s := by
  have hl : (us ++ ([] : List Value)).length = ps.length := by rw [List.append_nil, ← r.length]; exact F.len _ _ _ _ h
  have bt := hb s us I.kIn hl
  rw [List.append_nil] at bt
  refine wpAny_call (codeAny_mono (F.run X.A X.stack s H ⟨us, []⟩ us vs Q E hr I.env0 ht bt r h) fun o s' hq => ?_)
  cases o with
  | error e => exact hx pins σ H s e s' I hq
  | ok fl =>
    cases fl with
    | ret u => exact I.after hq
    | next => exact False.elim hq
    | brk => exact False.elim hq
    | cont => exact False.elim hq
/-- f(e, ..), f's promise bounded -/
theorem pn_call (F : FnOkN X.prog X.w X.K X.mg X.base CX k n f fd ps sp) (hr : Room k X.A) (hg : Gl X x) (hm : X.mg x = some (.ref f)) (hk : PySem.W.keepIn X.K (.ref f) = true) (hb : Binds X.K fd ps []) (hx : Passes CX X E) (ha : PA X (e :: es) t)
    (hdb : (x == ("__debug__" : Str)) = false := by decide) (he : starEach (e :: es) X.env = (false, eval e X.env) :: starEach es X.env := by rfl) (hpl : (backTo pos (starEach es X.env)).any (·.1) = false := by rfl) : PN X n (.Call (.Name x p) (e :: es) [] pos) (tCall sp [] E t) :=
  ⟨fun pins s σ H Q ht I h => wpAny_Call_Name_kw (ld_glob I hg hm (PySem.W.callWith_K (h₀ := X.base) I.ok.mod.kin hk (thnN ht (ha.run pos pins s σ H _ I h) fun us s1 ht1 ⟨vs, H1, I1, r, q⟩ => ⟨I1.kIn, run_fnN F hr hb hx ht1 I1 r (by have q' : sp (vs ++ []) H1 Q E := q; rw [List.append_nil] at q'; exact q')⟩) he hpl) hdb)⟩
end
section
variable (g : Gb) (n : Nat) (l : Lc)
def UEN (e : Expr) : TE := fun σ H Q => ∃ t, (∀ X, Of g l X → PN X n e t) ∧ t σ H Q
def DEN (e : Expr) (ρ : Rho) (d : DV) : Prop := EvD g.K (UEN g n l e) ρ d
end
theorem UEN.pn {g : Gb} {n : Nat} {l : Lc} {X : Cx} (o : Of g l X) (e : Expr) : PN X n e (UEN g n l e) := ⟨fun pins s σ H Q ht I ⟨t, h, q⟩ => (h X o).run pins s σ H Q ht I q⟩
section
variable {g : Gb} {n : Nat} {l : Lc} {ρ : Rho} {e : Expr} {es : List Expr} {ds : List DV} {d : DV} {x : Str} {p pos : Pos} {k : Nat} {R : List DV → DV → Prop}
theorem DEN.of (h : DE g l e ρ d) : DEN g n l e ρ d := fun H0 σ S H ex m Q q => by
  obtain ⟨t, a, b⟩ := h H0 σ S H ex m Q q
  exact ⟨t, fun X o => .of (a X o), b⟩
end
end PD
namespace SP
open PySem PySem.Spec PyProof.Rows L2 PD
variable {g : Gb}
end SP

/-! A law's call where the law's promise is bounded: how many identities the top has given out. -/
namespace PD
open PySem PySem.Spec PyProof.Rows L2
/-- nothing but the script is tracked, and that only where it is none of the module's own -/
def scrH (K : PySem.W.Frag) (a : Addr) (vs : List Value) (ns : List Int) : Hp := fun b =>
  if b = a ∧ (K.lookup a).isNone = true then some (.frz { cls := .type "list", data := .seq vs.toArray } (.lst (ns.map V.int))) else none
theorem scrH_some {K : PySem.W.Frag} {a b : Addr} {vs : List Value} {ns : List Int} {u : HO} (h : scrH K a vs ns b = some u) : b = a ∧ K.lookup a = none ∧ u = .frz { cls := .type "list", data := .seq vs.toArray } (.lst (ns.map V.int)) := by
  unfold scrH at h
  split at h
  · rename_i c
    cases h
    exact ⟨c.1, Option.isNone_iff_eq_none.mp c.2, rfl⟩
  · cases h
end PD
namespace PD
open PySem PySem.Spec PyProof.Rows L2 PySem.W PySem.W.X
theorem ofPys_ints : ∀ ns : List Int, ofPys (ns.map PyData.int) = ns.map WData.int
  | [] => by simp [ofPys]
  | n :: ns => by simp only [List.map_cons, ofPys, ofPy, ofPys_ints ns]
theorem ofPy_ints (ns : List Int) : ofPy (PyData.list (ns.map PyData.int)) = WData.list (ns.map WData.int) := by
  rw [ofPy, ofPys_ints]
end PD

/-! What is raised, over data: a reading or a statement ends with a value or with an exception of an own class. -/
namespace PD
open PySem PySem.Spec PyProof.Rows L2
/-- an exception as it lies behind a call: its class, its own attributes (none: no dict) -/
def ExD (K : PySem.W.Frag) (S : Hp) (C : Addr) (gs : List (Str × DV)) (cls : Value) (d : Option Addr) : Prop := cls = .ref C ∧ ((gs = [] ∧ d = none) ∨ ∃ dx fs, d = some dx ∧ S dx = some (.xd fs) ∧ RpF K S fs gs)
inductive Out where
  | val (d : DV)
  | exc (C : Addr) (gs : List (Str × DV))
/-- what is raised, and what the slots hold then -/
abbrev Zo := Rho → Addr → List (Str × DV) → Prop
def OkZ (K : PySem.W.Frag) (S0 H0 B : Hp) (W : WX) (Z : Zo) : Prop := ∀ ρ C gs cls d σ S H, Z ρ C gs → Go S0 H0 S H → Ex B S → En K H0 S H σ ρ → ExD K S C gs cls d → W cls d σ H
def StZ (K : PySem.W.Frag) (tz : WX → TS) (ρ : Rho) (E : Po) (Z : Zo) : Prop := ∀ S0 H0 B σ S H D W, Go S0 H0 S H → Ex B S → En K H0 S H σ ρ → Ok K S0 H0 B D E → OkZ K S0 H0 B W Z → tz W D σ H
section
variable {K : PySem.W.Frag} {ρ : Rho} {te : TE} {tz : WX → TE} {ts : TS} {tu tw : WX → TS} {tt : TT} {E : Po} {Z : Zo} {o : Out} {d : DV} {x : Bool}
theorem StZ.of (h : StD K ts ρ E) : StZ K (fun _ => ts) ρ E Z := fun S0 H0 B σ S H D W g b n o _ => h S0 H0 B σ S H D g b n o
theorem st_ifZ (h : EvB K tt ρ x) (h1 : x = true → StZ K tu ρ E Z) (h2 : x = false → StZ K tw ρ E Z) : StZ K (fun W => tIfS tt (tu W) (tw W)) ρ E Z := fun S0 H0 B σ S H D W g b n o z =>
  h H0 σ S H g.sub n _ fun S1 H1 g1 => by
    cases x with
    | true =>
      rw [if_pos rfl]
      exact h1 rfl S0 H0 B σ S1 H1 D W (g.tr g1) (b.tr g1.s) (n.go g1) o z
    | false =>
      rw [if_neg (by decide)]
      exact h2 rfl S0 H0 B σ S1 H1 D W (g.tr g1) (b.tr g1.s) (n.go g1) o z
theorem st_raise0 {C : Addr} (q : Z ρ C []) : StZ K (fun W _ σ H => W (.ref C) none σ H) ρ E Z := fun S0 H0 B σ S H D W g b n k z => z ρ C [] _ _ σ S H q g b n ⟨rfl, .inl ⟨rfl, rfl⟩⟩
/-- a promise over data: on ds it ends with o (R ds o) -/
def spZ (K : PySem.W.Frag) (R : List DV → Out → Prop) : Sp := fun vs H Q E => ∃ S ds o, Ex S H ∧ RpA K S vs ds ∧ R ds o ∧ (∀ d, o = .val d → Rs K S H d Q) ∧ ∀ C gs cls d S' H', o = .exc C gs → Go S H S' H' → ExD K S' C gs cls d → E cls d H'
end
/-- where one stands, with a wish about what is raised -/
structure OfZ (g : Gb) (l : Lc) (X : Cx) (W : WX) : Prop where
  o : Of g l X
  tk : Takes X W
  hs : X.stack = X.env :: X.outer
  hf : X.env.frame = some X.env.locals
section
variable (g : Gb) (l : Lc)
def UEZ (e : Expr) : WX → TE := fun W σ H Q => ∃ t, (∀ X, OfZ g l X W → PE X e t) ∧ t σ H Q
def USZ (st : Stmt) : WX → TS := fun W D σ H => ∃ t, (∀ X, OfZ g l X W → PS X st t) ∧ t D σ H
def USsZ (st : List Stmt) : WX → TS := fun W D σ H => ∃ t, (∀ X, OfZ g l X W → PSs X st t) ∧ t D σ H
def DSZ (st : Stmt) (ρ : Rho) (E : Po) (Z : Zo) : Prop := StZ g.K (USZ g l st) ρ E Z
def DSsZ (st : List Stmt) (ρ : Rho) (E : Po) (Z : Zo) : Prop := StZ g.K (USsZ g l st) ρ E Z
end
section
variable {g : Gb} {l : Lc} {X : Cx} {W : WX} {ρ : Rho} {e c : Expr} {es : List Expr} {st : Stmt} {sts body orelse : List Stmt} {E : Po} {Z : Zo} {o : Out} {d : DV} {ds : List DV} {pos p p2 py : Pos} {x : Bool} {n : Str}
theorem UEZ.pe (o : OfZ g l X W) (e : Expr) : PE X e (UEZ g l e W) := ⟨fun pins s σ H Q I ⟨t, h, q⟩ => (h X o).run pins s σ H Q I q⟩
theorem USZ.ps (o : OfZ g l X W) (st : Stmt) : PS X st (USZ g l st W) := ⟨fun pins s σ H D I ⟨t, h, q⟩ => (h X o).run pins s σ H D I q⟩
theorem USsZ.pss (o : OfZ g l X W) (st : List Stmt) : PSs X st (USsZ g l st W) := ⟨fun pins s σ H D I ⟨t, h, q⟩ => (h X o).run pins s σ H D I q⟩
theorem DSZ.by (t : WX → TS) (h : ∀ X W, OfZ g l X W → PS X st (t W)) (v : StZ g.K t ρ E Z) : DSZ g l st ρ E Z := fun S0 H0 B σ S H D W g0 b n k z => ⟨t W, fun X ok => h X W ok, v S0 H0 B σ S H D W g0 b n k z⟩
theorem DSsZ.by (t : WX → TS) (h : ∀ X W, OfZ g l X W → PSs X sts (t W)) (v : StZ g.K t ρ E Z) : DSsZ g l sts ρ E Z := fun S0 H0 B σ S H D W g0 b n k z => ⟨t W, fun X ok => h X W ok, v S0 H0 B σ S H D W g0 b n k z⟩
theorem DSsZ.of (h : DSs g l sts ρ E) : DSsZ g l sts ρ E Z := DSsZ.by _ (fun X W o => USs.pss o.o sts) (StZ.of h)
theorem dssz_nil (h : E.nx ρ) : DSsZ g l [] ρ E Z := .of (dss_nil h)
theorem dssz_one (h : DSZ g l st ρ E Z) : DSsZ g l [st] ρ E Z := DSsZ.by _ (fun X W o => pss_one (USZ.ps o st)) h
theorem dsz_if (h : DT g l c ρ x) (h1 : x = true → DSsZ g l body ρ E Z) (h2 : x = false → DSsZ g l orelse ρ E Z) : DSZ g l (.If c body orelse pos) ρ E Z := DSZ.by _ (fun X W o => ps_if (UT.pt o.o c) (USsZ.pss o body) (USsZ.pss o orelse)) (st_ifZ h h1 h2)
/-- an own class of exceptions without an own __init__ -/
structure Xc (g : Gb) (C : Addr) (x : Str) : Prop where
  mg : g.mg x = some (.ref C)
  kp : PySem.W.keepIn g.K (.ref C) = true
  sub : PySem.W.subIn g.K (.ref C) (.type "BaseException") = some true
  ty : PySem.W.typeIn g.K (.ref C) = some (.type "type")
  ex : ∃ (B newId initId : String) (bmB : List Value), ExcBaseFacts B newId initId bmB ∧ PySem.W.excIn g.K C bmB newId = true
theorem dsz_raise0 {C : Addr} {m : Str} {j : Nat} {p3 : Pos} (c : Xc g C n) (q : Z ρ C []) (hg : GlN l n := by rfl) (hdb : (n == ("__debug__" : Str)) = false := by decide) (hcl : l.cb = true := by rfl) : DSZ g l (.Raise (some (.Call (.Name n p) [.Constant (.str m) j p2] [] p3)) none pos) ρ E Z := by
  obtain ⟨hm, kp, sub, ty, B, newId, initId, bmB, F, hx⟩ := c
  exact DSZ.by _ (fun X W oz => have o := oz.o; ps_raise (o.calm hcl) oz.tk (pmk_own F (by rw [o.K]; exact hx) (by rw [o.mg]; exact hm) (by rw [o.K]; exact kp) (raises_own (by rw [o.K]; exact sub) (by rw [o.K]; exact ty)) (o.gl hg) hdb)) (st_raise0 q)
/-- a def that may raise -/
structure FnZ (g : Gb) (k : Nat) (n : Str) (R : List DV → Out → Prop) : Prop where
  ex : ∃ f fd ps, FnOk g.P g.w g.K g.mg g.base (L2.CX g.P g.w) k f fd ps (spZ g.K R) ∧ g.mg n = some (.ref f) ∧ PySem.W.keepIn g.K (.ref f) = true ∧ Binds g.K fd ps []
end
/-- what a body must do for the def to end with o -/
def poO : Out → Po
  | .val d => { nx := fun _ => d = .non, rt := fun r => r = d }
  | .exc _ _ => { nx := fun _ => False }
def zoO : Out → Zo
  | .val _ => fun _ _ _ => False
  | .exc C gs => fun _ C' gs' => C' = C ∧ gs' = gs
theorem fn_okZ {g : Gb} {x qual : Str} {st : Stmt} {f : Addr} {fd : FuncData} {N ps : List Str} {k : Nat} {R : List DV → Out → Prop} (F : Fun g.K x qual st f fd) (S : FnScope N ps (defScope st)) (len : ∀ ds o, R ds o → ds.length = ps.length)
    (body : ∀ ds o, R ds o → DSsZ g ⟨k, N, defScope st, fun _ => true, true, none⟩ (defBody st) (rho0 N ds) (poO o) (zoO o)) : FnOk g.P g.w g.K g.mg g.base (L2.CX g.P g.w) (k + 1) f fd ps (spZ g.K R) := by
  refine F.okX S (fun vs H Q E ⟨S0, ds, o, e, ra, hR, _⟩ => by rw [ra.len]; exact len ds o hR) (fun cdv A outer s H vs Q E hr ⟨S0, ds, o, e, ra, hR, q, z⟩ => ?_)
  refine ⟨USsZ g ⟨k, N, defScope st, fun _ => true, true, none⟩ (defBody st) (fun cls d _ H => E cls d H), USsZ.pss ⟨⟨rfl, rfl, rfl, rfl, rfl, rfl, rfl, fun _ _ => rfl, fun _ => rfl, fun _ => hr, hr.un, fun _ => passes_of rfl, fun _ _ _ h => by cases h⟩, takes_of rfl rfl rfl rfl, rfl, rfl⟩ _, ?_⟩
  refine body ds o hR S0 H S0 _ S0 H _ _ (Go.rf e) (Ex.rf _) (en_start ra) ⟨fun ρ σ S1 H1 h g1 _ n1 => ?_, fun r v S1 H1 h g1 r1 => ?_, fun _ _ _ _ h => ?_, fun _ _ _ _ h => ?_⟩ (fun ρ C gs cls d σ S1 H1 h g1 _ _ x1 => ?_)
  · cases o with
    | val d =>
      have h' : d = .non := h
      subst h'
      exact q _ rfl .non S1 H1 g1 .non
    | exc C gs => exact False.elim h
  · cases o with
    | val d =>
      have h' : r = d := h
      subst h'
      exact q _ rfl v S1 H1 g1 r1
    | exc C gs => exact False.elim h
  · cases o <;> exact False.elim h
  · cases o <;> exact False.elim h
  · cases o with
    | val d => exact False.elim h
    | exc C' gs' =>
      obtain ⟨h1, h2⟩ : C = C' ∧ gs = gs' := h
      subst h1 h2
      exact z C gs cls d S1 H1 rfl g1 x1
end PD

/-! try .. except X: return a truth value. -/
namespace PD
open PySem PySem.Spec PyProof.Rows L2
section
variable {g : Gb} {l : Lc} {X : Cx} {W : WX} {ρ : Rho} {e c : Expr} {es : List Expr} {st : Stmt} {sts body orelse : List Stmt} {E : Po} {Z : Zo} {o : Out} {d : DV} {ds : List DV} {pos np pos' p p2 p3 py : Pos} {x : Bool} {n : Str}
theorem OfZ.tr (o : OfZ g l X W) {W' : WX} {pn : List (Addr × Obj)} {xe : Value → Shared → Prop} (tk : Takes (X.tr pn xe) W') (po : PassesOwn (model X.prog X.w) X.A X.env xe) (hex : l.ex = none) : OfZ g l (X.tr pn xe) W' :=
  ⟨⟨o.o.prog, o.o.w, o.o.K, o.o.mg, o.o.base, o.o.N, o.o.sc, o.o.fn, o.o.calm, o.o.room, o.o.un, fun _ => po, fun _ _ _ h => by rw [hex] at h; cases h⟩, tk, o.hs, o.hf⟩
end
end PD

/-! try .. except X as e: a suite that uses e. -/
namespace PD
open PySem PySem.Spec PyProof.Rows L2
/-- the description of an except suite: a the exception, cls its class, d its dict -/
def Lc.sui (l : Lc) (a : Addr) (cls : Value) (d : Option Addr) : Lc := ⟨l.k, l.N, l.sc, l.fn, false, some (a, cls, d)⟩
section
variable {g : Gb} {l : Lc} {X : Cx} {W : WX} {ρ : Rho} {e c : Expr} {es : List Expr} {st b₀ : Stmt} {sts body sts' : List Stmt} {E : Po} {Z : Zo} {o : Out} {dv : DV} {ds : List DV} {pos np pos' : Pos} {n en part : Str} {cls : Value} {d : Option Addr} {a dd C : Addr} {gs : List (Str × DV)} {i : Nat}
theorem Of.suite {oe : Obj} {pn : List (Addr × Obj)} (o : Of g l X) (hz : Zc cls d oe) (hf : ∃ vs, oe.data = .fields vs) : Of g (l.sui a cls d) (X.suite a ((a, oe) :: pn)) :=
  ⟨o.prog, o.w, o.K, o.mg, o.base, o.N, o.sc, o.fn, fun h => absurd (show false = true from h) Bool.false_ne_true, fun h => absurd (show false = true from h) Bool.false_ne_true, o.un, fun h => absurd (show false = true from h) Bool.false_ne_true, fun a' c' d' h => by
    have h : some (a, cls, d) = some (a', c', d') := h
    cases h
    exact ⟨X, oe, pn, rfl, hz, hf⟩⟩
end
end PD

/-! In an except suite: e.f; isinstance(e, C) where e has no dict. -/
namespace PD
open PySem PySem.Spec PyProof.Rows L2
section
variable {g : Gb} {l : Lc} {ρ : Rho} {pos np fp : Pos} {en part f C' : Str} {dv : DV} {a dd C : Addr} {gs : List (Str × DV)} {i : Nat}
end
end PD

/-! In an except suite: isinstance(e, C), also where e has a dict of its own. -/
namespace PD
open PySem PySem.Spec PyProof.Rows L2
section
variable {g : Gb} {l : Lc} {ρ : Rho} {p p1 p2 pos : Pos} {en cn : Str} {a D : Addr} {d : Option Addr} {gs : List (Str × DV)} {i : Nat} {ev : EV} {vc : V} {cv : Value} {b : Bool}
end
end PD

/-! Lists of truth values: e.count(k), e.index(k). -/
namespace PD
open PySem PySem.Spec PyProof.Rows L2
section
variable {K : PySem.W.Frag} {S : Hp} {te : TE} {ρ : Rho} {bs : List Bool} {k : Bool}
end
section
variable {g : Gb} {l : Lc} {ρ : Rho} {o : Expr} {bs : List Bool} {k : Bool} {apos pos cp : Pos} {i : Nat}
end
end PD

/-! The suite of _law_raised: which sort the error is of. -/
namespace SP
open PySem PySem.Spec PyProof.Rows L2 PD
section
variable {g : Gb} {C0 C1 C2 C3 C4 C5 D a : Addr} {j k : Nat} {d : Option Addr} {gs : List (Str × DV)} {ev : EV} {E : Po} {c : EV}
end
end SP

/-! for and while where a turn may raise; raise C(e) of a class without an own __init__. -/
namespace PD
open PySem PySem.Spec PyProof.Rows L2
section
variable {K : PySem.W.Frag} {ρ : Rho} {tt : TT} {tu ts : WX → TS} {ds : List DV} {E : Po} {Z : Zo}
end
section
variable {g : Gb} {l : Lc} {ρ : Rho} {tg iter c : Expr} {is : List Nat} {ds : List DV} {body : List Stmt} {E : Po} {Z : Zo} {pos : Pos}
end
end PD

/-! An exception from within: of a part of an expression, of an argument. -/
namespace PD
open PySem PySem.Spec PyProof.Rows L2
section
variable {K : PySem.W.Frag} {ρ : Rho} {te : TE} {tz : WX → TE} {ta : TA} {taz : WX → TA} {C : Addr} {gs : List (Str × DV)} {d : DV}
end
section
variable (g : Gb) (l : Lc)
end
section
variable {g : Gb} {l : Lc} {X : Cx} {W : WX} {ρ : Rho} {e a b : Expr} {es : List Expr} {o : Out} {d : DV} {ds : List DV} {pos p : Pos} {n : Str} {C : Addr} {gs : List (Str × DV)}
end
end PD

namespace SP
open PySem L2 PD
/-! slices -/
theorem cutG_to {α : Type} {xs : List α} {k : Nat} (h : k ≤ xs.length) : cutG xs none (some (k : Int)) = xs.take k := by
  unfold cutG
  rw [HT.sIx_none, HT.sIx_nat, List.drop_zero, Nat.sub_zero, Nat.min_eq_left h]
theorem cutG_from {α : Type} {xs : List α} {k : Nat} : cutG xs (some (k : Int)) none = xs.drop k := by
  unfold cutG
  rw [HT.sIx_none, HT.sIx_nat]
  by_cases h : k ≤ xs.length
  · rw [Nat.min_eq_left h, List.take_of_length_le (by rw [List.length_drop]; exact Nat.le_refl _)]
  · rw [Nat.min_eq_right (by omega), List.drop_length, List.drop_of_length_le (by omega)]
    simp
theorem set_cut {α : Type} {xs : List α} {b : Nat} {c : α} (h : b < xs.length) : xs.take b ++ [c] ++ xs.drop (b + 1) = xs.set b c := by
  rw [List.set_eq_take_append_cons_drop, if_pos h, List.append_assoc]
  rfl
def takeS (x : Str) (n : Nat) : Str := ⟨(x.cps.toList.take n).toArray⟩
def dropS (x : Str) (n : Nat) : Str := ⟨(x.cps.toList.drop n).toArray⟩
theorem len_toList (x : Str) : x.cps.toList.length = x.length := by rw [Array.length_toList]; rfl
theorem takeS_len (x : Str) (n : Nat) : (takeS x n).length ≤ n := by
  show (x.cps.toList.take n).toArray.size ≤ n
  rw [List.size_toArray, List.length_take]
  omega
theorem dropS_len (x : Str) (n : Nat) : (dropS x n).length = x.length - n := by
  show (x.cps.toList.drop n).toArray.size = _
  rw [List.size_toArray, List.length_drop, len_toList]
theorem cutS_to {x : Str} {k : Nat} (h : k ≤ x.length) : cutS x none (some (k : Int)) = takeS x k := by
  unfold L2.cutS takeS
  rw [HT.sIx_none, HT.sIx_nat, List.drop_zero, Nat.sub_zero, Nat.min_eq_left h]
theorem cutS_from {x : Str} {k : Nat} : cutS x (some (k : Int)) none = dropS x k := by
  unfold L2.cutS dropS
  rw [HT.sIx_none, HT.sIx_nat]
  by_cases h : k ≤ x.length
  · rw [Nat.min_eq_left h, List.take_of_length_le (by rw [List.length_drop, len_toList]; exact Nat.le_refl _)]
  · rw [Nat.min_eq_right (by omega), List.drop_of_length_le (by rw [len_toList]; exact Nat.le_refl _), List.drop_of_length_le (by rw [len_toList]; omega)]
    simp
/-! torn writes -/
def mixS (p q : Str) (n : Nat) : Str := takeS p n ++ dropS q n
def mixO (p q : List Nat) (n : Nat) : List Nat := p.take n ++ q.drop n
theorem mixS_len {p q : Str} {n : Nat} : (mixS p q n).length ≤ n + (q.length - n) := by
  unfold mixS
  have h1 := takeS_len p n
  have h2 := dropS_len q n
  rw [Str.length_append]
  omega
theorem mixO_len {p q : List Nat} {n : Nat} : (mixO p q n).length ≤ n + (q.length - n) := by
  unfold mixO
  rw [List.length_append, List.length_take, List.length_drop]
  omega
theorem mixO_mem {p q : List Nat} {n m : Nat} (h : ∀ b ∈ p, b < m) (h' : ∀ b ∈ q, b < m) : ∀ b ∈ mixO p q n, b < m := by
  intro b hb
  unfold mixO at hb
  rcases List.mem_append.mp hb with hb | hb
  · exact h b (List.mem_of_mem_take hb)
  · exact h' b (List.mem_of_mem_drop hb)
theorem odD_cut (o : List Nat) (q : List Nat) (n : Nat) : (odD o).take n ++ (odD q).drop n = odD (mixO o q n) := by
  unfold odD mixO
  rw [List.map_append, List.map_take, List.map_drop]
def oldP (ps : List Str) (b : Nat) : Str := ps.getD b ⟨#[]⟩
def oldC (ps : List Str) (od : List Nat) : Wr → DV
  | .piece b _ => .str (oldP ps b) | .order _ => .tup (odD od)
def afterP (ps : List Str) : Wr → List Str
  | .piece b p => ps.set b p | .order _ => ps
def afterO (od : List Nat) : Wr → List Nat
  | .piece _ _ => od | .order o => o
/-- the states that are left, as pairs -/
def tornOf (ps : List Str) (od : List Nat) : Wr → List (List Str × List Nat)
  | .piece b p => (List.range p.length).map fun n => (ps.set b (mixS p (oldP ps b) n), od)
  | .order o => (List.range o.length).map fun n => (ps, mixO o od n)
def readingsOf (ps : List Str) (od : List Nat) (w : Wr) (tn : Bool) : List Str :=
  (if tn = true then (tornOf ps od w).map fun s => textOf s.1 s.2 else [textOf ps od]) ++ [textOf (afterP ps w) (afterO od w)]
def okText (a t r : Str) : Bool := inD (.str r) [.str a, .str t]
def safeOf (ps : List Str) (od : List Nat) (w : Wr) (tn : Bool) (t : Str) : Bool := (readingsOf ps od w tn).all (okText (textOf ps od) t)
/-! bounds -/
structure Bd (ps : List Str) (od : List Nat) : Prop where
  hps : ps.length ≤ 4
  hp : ∀ p ∈ ps, p.length ≤ 4
  hod : od.length ≤ 6
  hb : ∀ b ∈ od, b < ps.length
structure VS (ls : Str) (ps : List Str) (od : List Nat) : Prop where
  hls : letterSet ls
  hps1 : 1 ≤ ps.length
  hps : ps.length ≤ 4
  hp : ∀ p ∈ ps, wordOk ls 2 p = true
  hod : od.length ≤ 3
  hb : ∀ b ∈ od, b < ps.length
def VW (ls : Str) (n : Nat) : Wr → Prop
  | .piece b p => b < n ∧ wordOk ls 2 p = true | .order o => o.length ≤ 3 ∧ ∀ b ∈ o, b < n
theorem wordOk_len {ls z : Str} {m : Nat} (h : wordOk ls m z = true) : z.length ≤ m := by
  unfold wordOk at h
  rw [Bool.and_eq_true] at h
  exact of_decide_eq_true h.1
theorem VS.bd {ls : Str} {ps : List Str} {od : List Nat} (v : VS ls ps od) : Bd ps od := ⟨v.hps, fun p hp => Nat.le_trans (wordOk_len (v.hp p hp)) (by decide), Nat.le_trans v.hod (by decide), v.hb⟩
theorem VS.after {ls : Str} {ps : List Str} {od : List Nat} {w : Wr} (v : VS ls ps od) (h : VW ls ps.length w) : VS ls (afterP ps w) (afterO od w) := by
  cases w with
  | piece b p =>
    refine ⟨v.hls, by show 1 ≤ (ps.set b p).length; rw [List.length_set]; exact v.hps1, by show (ps.set b p).length ≤ 4; rw [List.length_set]; exact v.hps, fun q hq => ?_, v.hod, fun c hc => by show c < (ps.set b p).length; rw [List.length_set]; exact v.hb c hc⟩
    rcases List.mem_or_eq_of_mem_set hq with hq | rfl
    · exact v.hp q hq
    · exact h.2
  | order o => exact ⟨v.hls, v.hps1, v.hps, v.hp, h.1, h.2⟩
theorem get_piece {ps : List Str} {b : Nat} (h : b < ps.length) : ps[b]? = some (oldP ps b) := by
  unfold oldP
  rw [List.getD_eq_getElem?_getD, List.getElem?_eq_getElem h]
  rfl
theorem oldP_mem {ps : List Str} {b : Nat} (h : b < ps.length) : oldP ps b ∈ ps := List.mem_of_getElem? (get_piece h)
theorem tornOf_bd {ls : Str} {ps : List Str} {od : List Nat} {w : Wr} (v : VS ls ps od) (h : VW ls ps.length w) : ∀ s ∈ tornOf ps od w, Bd s.1 s.2 := by
  intro s hs
  cases w with
  | piece b p =>
    unfold tornOf at hs
    rw [List.mem_map] at hs
    obtain ⟨n, hn, rfl⟩ := hs
    rw [List.mem_range] at hn
    have h2 := wordOk_len h.2
    have h3 := wordOk_len (v.hp _ (oldP_mem h.1))
    refine ⟨by show (ps.set _ _).length ≤ 4; rw [List.length_set]; exact v.hps, fun q hq => ?_, Nat.le_trans v.hod (by decide), fun c hc => by show c < (ps.set _ _).length; rw [List.length_set]; exact v.hb c hc⟩
    rcases List.mem_or_eq_of_mem_set hq with hq | rfl
    · exact Nat.le_trans (wordOk_len (v.hp q hq)) (by decide)
    · have := mixS_len (p := p) (q := oldP ps b) (n := n)
      omega
  | order o =>
    unfold tornOf at hs
    rw [List.mem_map] at hs
    obtain ⟨n, hn, rfl⟩ := hs
    rw [List.mem_range] at hn
    have h1 := h.1
    have h2 := v.hod
    have := mixO_len (p := o) (q := od) (n := n)
    exact ⟨v.hps, fun q hq => Nat.le_trans (wordOk_len (v.hp q hq)) (by decide), by show (mixO o od n).length ≤ 6; omega, mixO_mem h.2 v.hb⟩
theorem textOf_len {ps : List Str} {od : List Nat} (h : Bd ps od) : (textOf ps od).length ≤ 24 := by
  unfold textOf
  rw [catS_len]
  refine Nat.le_trans (sum_le (m := 4) fun x hx => ?_) ?_
  · rw [List.map_map, List.mem_map] at hx
    obtain ⟨b, hb, rfl⟩ := hx
    exact h.hp _ (oldP_mem (h.hb b hb))
  · rw [List.length_map, List.length_map]
    have := h.hod
    omega
end SP

namespace SP
open PySem PySem.Spec PyProof.Rows L2 PD
variable {g : Gb}
theorem scSText : FnScope ["state", "pieces", "order", "block"] ["state"] (defScope sSText) := ⟨rfl, rfl, rfl, by decide +kernel, rfl, by decide +kernel, by decide +kernel⟩
def R_stext : List DV → DV → Prop := fun ds d => ∃ ps od, Bd ps od ∧ ds = [stD ps od] ∧ d = .str (textOf ps od)
theorem ok_stext {f : Addr} {fd : FuncData} (F : Fun g.K "state_text" "state_text" sSText f fd) : FnOk g.P g.w g.K g.mg g.base CX0 1 f fd ["state"] (spR g.K R_stext) := by
  refine fn_ok F scSText (fun ds d ⟨ps, od, _, e, _⟩ => by rw [e]; rfl) fun ds d ⟨ps, od, h, e, ed⟩ => ?_
  subst e ed
  refine dss_cons (ds_asg (de_v 0) (dg_tup (dgs_cons (dg_n 1 scSText.nd) (dgs_cons (dg_n 2 scSText.nd) dgs_nil))) (dss_one (ds_ret (de_join (sep := ⟨#[]⟩) (ys := od.map (oldP ps)) (da := .lst ((od.map (oldP ps)).map DV.str)) de_str (DE.is (dl_rL (own := [("block", 3)]) scSText.nd (by decide +kernel) (rL.ev (is := [3]) (di_t (de_v 2)) ?_ (by decide)
    (fun d => [.val (stD ps od), .val (.tup (psD ps)), .val (.tup (odD od)), .val d]) (fun _ => true) (fun d => match d with | .int i => .str (oldP ps i.toNat) | _ => .non) (fun d hd => dg_n 3 scSText.nd) (fun d hd => dts_nil) (fun d hd _ => ?_))).de ?_) rfl ?_) ?_)))
  · rw [odD_len]
    exact Nat.le_trans h.hod (by decide)
  · unfold odD at hd
    rw [List.mem_map] at hd
    obtain ⟨b, hb, rfl⟩ := hd
    exact de_ixT (atI_nat (psD_get (get_piece (h.hb b hb)))) (de_v 1) (de_v 3)
  · rw [filt]
    unfold odD
    rw [List.map_map, List.map_map]
    refine congrArg DV.lst (List.map_congr_left fun b _ => ?_)
    show DV.str (oldP ps ((b : Int)).toNat) = DV.str (oldP ps b)
    rw [Int.toNat_natCast]
  · show ((od.map (oldP ps)).map (·.length)).sum + (od.map (oldP ps)).length * 0 ≤ _
    have := textOf_len h
    unfold textOf at this
    rw [catS_len] at this
    have e : ((od.map (oldP ps)).map (·.length)).sum ≤ 24 := this
    omega
  · show DV.str _ = DV.str _
    rw [join_cat]
    rfl
theorem scOld : FnScope ["state", "write", "pieces", "order"] ["state", "write"] (defScope sOld) := ⟨rfl, rfl, rfl, by decide +kernel, rfl, by decide +kernel, by decide +kernel⟩
def okW (n : Nat) : Wr → Prop
  | .piece b _ => b < n | .order _ => True
theorem VW.ok {ls : Str} {n : Nat} {w : Wr} (h : VW ls n w) : okW n w := by
  cases w with
  | piece b p => exact h.1
  | order o => trivial
def R_old : List DV → DV → Prop := fun ds d => ∃ ps od w, okW ps.length w ∧ ds = [stD ps od, Wr.d w] ∧ d = oldC ps od w
theorem ok_old {f : Addr} {fd : FuncData} (F : Fun g.K "old_content" "old_content" sOld f fd) : FnOk g.P g.w g.K g.mg g.base CX0 1 f fd ["state", "write"] (spR g.K R_old) := by
  refine fn_ok F scOld (fun ds d ⟨ps, od, w, _, e, _⟩ => by rw [e]; rfl) fun ds d ⟨ps, od, w, h, e, ed⟩ => ?_
  subst e ed
  refine dss_cons (ds_asg (de_v 0) (dg_tup (dgs_cons (dg_n 2 scOld.nd) (dgs_cons (dg_n 3 scOld.nd) dgs_nil))) ?_)
  cases w with
  | piece b p =>
    exact dss_cons (ds_if (x := false) (DT.is (dt_eqS (de_ixT (xs := [.str "piece", .int b, .str p]) (i := 0) (d := .str "piece") rfl (de_v 1) de_int) de_str) (by decide +kernel)) (fun h => by cases h) fun _ => dss_nil (dss_one (ds_ret (de_ixT (atI_nat (psD_get (get_piece h))) (de_v 2) (de_ixT (xs := [.str "piece", .int b, .str p]) (i := 1) (d := .int b) rfl (de_v 1) de_int)) rfl)))
  | order o =>
    exact dss_cons (ds_if (x := true) (DT.is (dt_eqS (de_ixT (xs := [.str "order", .tup (odD o)]) (i := 0) (d := .str "order") rfl (de_v 1) de_int) de_str) (by decide +kernel)) (fun _ => dss_one (ds_ret (de_v 3) rfl)) fun h => by cases h)
theorem scPut : FnScope ["state", "write", "content", "pieces", "order", "block"] ["state", "write", "content"] (defScope sPut) := ⟨rfl, rfl, rfl, by decide +kernel, rfl, by decide +kernel, by decide +kernel⟩
def R_put : List DV → DV → Prop := fun ds d => (∃ ps od b p c, b < ps.length ∧ ps.length ≤ 4 ∧ ds = [stD ps od, Wr.d (.piece b p), .str c] ∧ d = stD (ps.set b c) od) ∨ ∃ ps od o c, ds = [stD ps od, Wr.d (.order o), .tup (odD c)] ∧ d = stD ps c
theorem ok_put {f : Addr} {fd : FuncData} (F : Fun g.K "put_content" "put_content" sPut f fd) : FnOk g.P g.w g.K g.mg g.base CX0 1 f fd ["state", "write", "content"] (spR g.K R_put) := by
  refine fn_ok F scPut (fun ds d h => ?_) fun ds d h => ?_
  · rcases h with ⟨_, _, _, _, _, _, _, e, _⟩ | ⟨_, _, _, _, e, _⟩ <;> rw [e] <;> rfl
  · rcases h with ⟨ps, od, b, p, c, hb, hps, e, ed⟩ | ⟨ps, od, o, c, e, ed⟩
    · subst e ed
      have e1 : (1 : Int) + (b : Int) = ((b + 1 : Nat) : Int) := by omega
      refine dss_cons (ds_asg (de_v 0) (dg_tup (dgs_cons (dg_n 3 scPut.nd) (dgs_cons (dg_n 4 scPut.nd) dgs_nil))) (dss_cons (ds_if (x := false) (DT.is (dt_eqS (de_ixT (xs := [.str "piece", .int b, .str p]) (i := 0) (d := .str "piece") rfl (de_v 1) de_int) de_str) (by decide +kernel)) (fun h => by cases h) fun _ => dss_nil
        (dss_cons (ds_set 5 scPut.nd (de_ixT (xs := [.str "piece", .int b, .str p]) (i := 1) (d := .int b) rfl (de_v 1) de_int) (dss_one (ds_ret (de_tup (da_cons (DE.is (de_catT ?_ (de_catT ?_ (de_slT (de_v 3) dp_none (dp_some (de_v 5))) (de_tup (da_cons (de_v 2) da_nil))) (de_slT (j := none) (i := some ((b + 1 : Nat) : Int)) (de_v 3) (dp_some (DE.is (de_add (de_v 5) de_int) ?_)) dp_none)) ?_) (da_cons (de_v 4) da_nil))) rfl)))))))
      · rw [cutG_to (by rw [psD_len]; omega), cutG_from, List.length_append, List.length_take, List.length_drop, psD_len]
        show min b ps.length + 1 + (ps.length - (b + 1)) ≤ 100000
        omega
      · rw [cutG_to (by rw [psD_len]; omega), List.length_take, psD_len]
        show min b ps.length + 1 ≤ 100000
        omega
      · show DV.int ((b : Int) + 1) = DV.int ((b + 1 : Nat) : Int)
        congr 1
      · rw [cutG_to (by rw [psD_len]; omega), cutG_from, set_cut (by rw [psD_len]; exact hb)]
        unfold psD
        rw [List.map_set]
    · subst e ed
      exact dss_cons (ds_asg (de_v 0) (dg_tup (dgs_cons (dg_n 3 scPut.nd) (dgs_cons (dg_n 4 scPut.nd) dgs_nil))) (dss_cons (ds_if (x := true) (DT.is (dt_eqS (de_ixT (xs := [.str "order", .tup (odD o)]) (i := 0) (d := .str "order") rfl (de_v 1) de_int) de_str) (by decide +kernel)) (fun _ => dss_one (ds_ret (de_tup (da_cons (de_v 3) (da_cons (de_v 2) da_nil))) rfl)) fun h => by cases h)))
theorem scSAfter : FnScope ["state", "write"] ["state", "write"] (defScope sSAfter) := ⟨rfl, rfl, rfl, by decide +kernel, rfl, by decide +kernel, by decide +kernel⟩
def R_safter : List DV → DV → Prop := fun ds d => ∃ ps od w, okW ps.length w ∧ ps.length ≤ 4 ∧ ds = [stD ps od, Wr.d w] ∧ d = stD (afterP ps w) (afterO od w)
theorem ok_safter (Pu : Fn g 1 "put_content" R_put) {f : Addr} {fd : FuncData} (F : Fun g.K "state_after" "state_after" sSAfter f fd) : FnOk g.P g.w g.K g.mg g.base CX0 2 f fd ["state", "write"] (spR g.K R_safter) := by
  refine fn_ok F scSAfter (fun ds d ⟨ps, od, w, _, _, e, _⟩ => by rw [e]; rfl) fun ds d ⟨ps, od, w, h, hps, e, ed⟩ => ?_
  subst e ed
  cases w with
  | piece b p => exact dss_one (ds_ret (de_call Pu (da_cons (de_v 0) (da_cons (de_v 1) (da_cons (de_ixT (xs := [.str "piece", .int b, .str p]) (i := -1) (d := .str p) rfl (de_v 1) (de_neg de_int)) da_nil))) (.inl ⟨ps, od, b, p, p, h, hps, rfl, rfl⟩)) rfl)
  | order o => exact dss_one (ds_ret (de_call Pu (da_cons (de_v 0) (da_cons (de_v 1) (da_cons (de_ixT (xs := [.str "order", .tup (odD o)]) (i := -1) (d := .tup (odD o)) rfl (de_v 1) (de_neg de_int)) da_nil))) (.inr ⟨ps, od, o, o, rfl, rfl⟩)) rfl)
theorem scTornC : FnScope ["old", "new", "count"] ["old", "new"] (defScope sTornC) := ⟨rfl, rfl, rfl, by decide +kernel, rfl, by decide +kernel, by decide +kernel⟩
/-- what a torn write of a content leaves of it -/
def leftS (p q : Str) : List DV := (List.range p.length).map fun n => DV.str (mixS p q n)
def leftO (p q : List Nat) : List DV := (List.range p.length).map fun n => DV.tup (odD (mixO p q n))
def R_tornc : List DV → DV → Prop := fun ds d => (∃ p q : Str, p.length ≤ 100 ∧ q.length ≤ 100 ∧ ds = [.str q, .str p] ∧ d = .lst (leftS p q)) ∨ ∃ p q : List Nat, p.length ≤ 100 ∧ q.length ≤ 100 ∧ ds = [.tup (odD q), .tup (odD p)] ∧ d = .lst (leftO p q)
theorem ok_tornc (B : Bt g) {f : Addr} {fd : FuncData} (F : Fun g.K "torn_contents" "torn_contents" sTornC f fd) : FnOk g.P g.w g.K g.mg g.base CX0 1 f fd ["old", "new"] (spR g.K R_tornc) := by
  refine fn_ok F scTornC (fun ds d h => ?_) fun ds d h => ?_
  · rcases h with ⟨_, _, _, _, e, _⟩ | ⟨_, _, _, _, e, _⟩ <;> rw [e] <;> rfl
  · rcases h with ⟨p, q, hp, hq, e, ed⟩ | ⟨p, q, hp, hq, e, ed⟩
    · subst e ed
      refine dss_one (ds_ret (DE.is (dl_rL (own := [("count", 2)]) scTornC.nd (by decide +kernel) (rL.ev (is := [2]) (di_r (n := p.length) B.range (by omega) (de_lenS B.len (by omega) (de_v 1))) (by rw [rangeD_len]; omega) (by decide)
        (fun d => [.val (.str q), .val (.str p), .val d]) (fun _ => true) (fun d => match d with | .int i => .str (mixS p q i.toNat) | _ => .non) (fun d hd => dg_n 2 scTornC.nd) (fun d hd => dts_nil) (fun d hd _ => ?_))).de ?_) rfl)
      · unfold rangeD at hd
        rw [List.mem_map] at hd
        obtain ⟨n, hn, rfl⟩ := hd
        rw [List.mem_range] at hn
        rw [Int.zero_add]
        have l1 := takeS_len p n
        have l2 := dropS_len q n
        refine DE.is (de_addS (i := takeS p n) (j := dropS q n) (by omega) (DE.is (de_slS (z := p) (by omega) (de_v 1) dp_none (dp_some (de_v 2))) (by rw [cutS_to (by omega)])) (DE.is (de_slS (z := q) (by omega) (de_v 0) (dp_some (de_v 2)) dp_none) (by rw [cutS_from]))) ?_
        show DV.str (mixS p q n) = DV.str (mixS p q ((n : Int)).toNat)
        rw [Int.toNat_natCast]
      · rw [filt]
        unfold rangeD leftS
        rw [List.map_map]
        refine congrArg DV.lst (List.map_congr_left fun n _ => ?_)
        show DV.str (mixS p q ((0 : Int) + (n : Int)).toNat) = DV.str (mixS p q n)
        rw [Int.zero_add, Int.toNat_natCast]
    · subst e ed
      refine dss_one (ds_ret (DE.is (dl_rL (own := [("count", 2)]) scTornC.nd (by decide +kernel) (rL.ev (is := [2]) (di_r (n := (odD p).length) B.range (by rw [odD_len]; omega) (de_len B.len rfl (de_v 1))) (by rw [rangeD_len, odD_len]; omega) (by decide)
        (fun d => [.val (.tup (odD q)), .val (.tup (odD p)), .val d]) (fun _ => true) (fun d => match d with | .int i => .tup (odD (mixO p q i.toNat)) | _ => .non) (fun d hd => dg_n 2 scTornC.nd) (fun d hd => dts_nil) (fun d hd _ => ?_))).de ?_) rfl)
      · unfold rangeD at hd
        rw [List.mem_map] at hd
        obtain ⟨n, hn, rfl⟩ := hd
        rw [List.mem_range, odD_len] at hn
        rw [Int.zero_add]
        have e1 := cutG_to (xs := odD p) (k := n) (by rw [odD_len]; omega)
        have e2 := cutG_from (xs := odD q) (k := n)
        refine DE.is (de_catT ?_ (de_slT (de_v 1) dp_none (dp_some (de_v 2))) (de_slT (de_v 0) (dp_some (de_v 2)) dp_none)) (congrArg DV.tup ?_)
        · rw [e1, e2, List.length_take, List.length_drop, odD_len, odD_len]
          omega
        · show _ = odD (mixO p q ((n : Int)).toNat)
          rw [e1, e2, odD_cut, Int.toNat_natCast]
      · rw [filt]
        unfold rangeD leftO
        rw [odD_len, List.map_map]
        refine congrArg DV.lst (List.map_congr_left fun n _ => ?_)
        show DV.tup (odD (mixO p q ((0 : Int) + (n : Int)).toNat)) = DV.tup (odD (mixO p q n))
        rw [Int.zero_add, Int.toNat_natCast]
theorem scTorn : FnScope ["state", "write", "left", "content"] ["state", "write"] (defScope sTorn) := ⟨rfl, rfl, rfl, by decide +kernel, rfl, by decide +kernel, by decide +kernel⟩
def R_torn : List DV → DV → Prop := fun ds d => ∃ ls ps od w, VS ls ps od ∧ VW ls ps.length w ∧ ds = [stD ps od, Wr.d w] ∧ d = .lst ((tornOf ps od w).map fun s => stD s.1 s.2)
theorem ok_torn (Ol : Fn g 1 "old_content" R_old) (Tc : Fn g 1 "torn_contents" R_tornc) (Pu : Fn g 1 "put_content" R_put) {f : Addr} {fd : FuncData} (F : Fun g.K "torn_states" "torn_states" sTorn f fd) : FnOk g.P g.w g.K g.mg g.base CX0 2 f fd ["state", "write"] (spR g.K R_torn) := by
  refine fn_ok F scTorn (fun ds d ⟨ls, ps, od, w, _, _, e, _⟩ => by rw [e]; rfl) fun ds d ⟨ls, ps, od, w, v, h, e, ed⟩ => ?_
  subst e ed
  have hps := v.hps
  cases w with
  | piece b p =>
    have hp := wordOk_len h.2
    have hq := wordOk_len (v.hp _ (oldP_mem h.1))
    refine dss_cons (ds_set 2 scTorn.nd (de_call Tc (da_cons (de_call Ol (da_cons (de_v 0) (da_cons (de_v 1) da_nil)) ⟨ps, od, .piece b p, h.1, rfl, rfl⟩) (da_cons (de_ixT (xs := [.str "piece", .int b, .str p]) (i := -1) (d := .str p) rfl (de_v 1) (de_neg de_int)) da_nil)) (.inl ⟨p, oldP ps b, by omega, by omega, rfl, rfl⟩))
      (dss_one (ds_ret (DE.is (dl_rL (own := [("content", 3)]) scTorn.nd (by decide +kernel) (rL.ev (is := [3]) (ds := leftS p (oldP ps b)) (di_l (de_v 2)) ?_ (by decide)
        (fun d => [.val (stD ps od), .val (Wr.d (.piece b p)), .val (.lst (leftS p (oldP ps b))), .val d]) (fun _ => true) (fun d => match d with | .str c => stD (ps.set b c) od | _ => .non) (fun d hd => dg_n 3 scTorn.nd) (fun d hd => dts_nil) (fun d hd _ => ?_))).de ?_) rfl)))
    · unfold leftS
      rw [List.length_map, List.length_range]
      omega
    · unfold leftS at hd
      rw [List.mem_map] at hd
      obtain ⟨n, _, rfl⟩ := hd
      exact de_call Pu (da_cons (de_v 0) (da_cons (de_v 1) (da_cons (de_v 3) da_nil))) (.inl ⟨ps, od, b, p, _, h.1, hps, rfl, rfl⟩)
    · rw [filt]
      unfold leftS tornOf
      rw [List.map_map, List.map_map]
      rfl
  | order o =>
    have h1 := h.1
    have h2 := v.hod
    refine dss_cons (ds_set 2 scTorn.nd (de_call Tc (da_cons (de_call Ol (da_cons (de_v 0) (da_cons (de_v 1) da_nil)) ⟨ps, od, .order o, trivial, rfl, rfl⟩) (da_cons (de_ixT (xs := [.str "order", .tup (odD o)]) (i := -1) (d := .tup (odD o)) rfl (de_v 1) (de_neg de_int)) da_nil)) (.inr ⟨o, od, by omega, by omega, rfl, rfl⟩))
      (dss_one (ds_ret (DE.is (dl_rL (own := [("content", 3)]) scTorn.nd (by decide +kernel) (rL.ev (is := [3]) (ds := leftO o od) (di_l (de_v 2)) ?_ (by decide)
        (fun d => [.val (stD ps od), .val (Wr.d (.order o)), .val (.lst (leftO o od)), .val d]) (fun _ => true) (fun d => .tup [.tup (psD ps), d]) (fun d hd => dg_n 3 scTorn.nd) (fun d hd => dts_nil) (fun d hd _ => ?_))).de ?_) rfl)))
    · unfold leftO
      rw [List.length_map, List.length_range]
      omega
    · unfold leftO at hd
      rw [List.mem_map] at hd
      obtain ⟨n, _, rfl⟩ := hd
      exact de_call Pu (da_cons (de_v 0) (da_cons (de_v 1) (da_cons (de_v 3) da_nil))) (.inr ⟨ps, od, o, _, rfl, rfl⟩)
    · rw [filt]
      unfold leftO tornOf
      rw [List.map_map, List.map_map]
      rfl
end SP

namespace SP
open PySem PySem.Spec PyProof.Rows L2 PD
variable {g : Gb}
theorem scReadings : FnScope ["state", "write", "torn", "texts", "left"] ["state", "write", "torn"] (defScope sReadings) := ⟨rfl, rfl, rfl, by decide +kernel, rfl, by decide +kernel, by decide +kernel⟩
def R_readings : List DV → DV → Prop := fun ds d => ∃ ls ps od w tn, VS ls ps od ∧ VW ls ps.length w ∧ ds = [stD ps od, Wr.d w, .bl tn] ∧ d = .lst ((readingsOf ps od w tn).map DV.str)
theorem tornOf_len {ls : Str} {ps : List Str} {od : List Nat} {w : Wr} (h : VW ls ps.length w) : (tornOf ps od w).length ≤ 3 := by
  cases w with
  | piece b p =>
    have := wordOk_len h.2
    unfold tornOf
    rw [List.length_map, List.length_range]
    omega
  | order o =>
    unfold tornOf
    rw [List.length_map, List.length_range]
    exact h.1
theorem ok_readings (St : Fn g 1 "state_text" R_stext) (To : Fn g 2 "torn_states" R_torn) (Af : Fn g 2 "state_after" R_safter) {f : Addr} {fd : FuncData} (F : Fun g.K "state_readings" "state_readings" sReadings f fd) : FnOk g.P g.w g.K g.mg g.base CX0 3 f fd ["state", "write", "torn"] (spR g.K R_readings) := by
  refine fn_ok F scReadings (fun ds d ⟨ls, ps, od, w, tn, _, _, e, _⟩ => by rw [e]; rfl) fun ds d ⟨ls, ps, od, w, tn, v, h, e, ed⟩ => ?_
  subst e ed
  have hv := v.after h
  have rest : ∀ L : List Str, L.length ≤ 3 → L ++ [textOf (afterP ps w) (afterO od w)] = readingsOf ps od w tn → DSs g ⟨2, ["state", "write", "torn", "texts", "left"], defScope sReadings, fun _ => true, true, none⟩ ((defBody sReadings).drop 1) [.val (stD ps od), .val (Wr.d w), .val (.bl tn), .own (L.map DV.str), .un] { nx := fun _ => DV.lst ((readingsOf ps od w tn).map DV.str) = .non, rt := fun r => r = DV.lst ((readingsOf ps od w tn).map DV.str) } := by
    intro L hL eL
    refine dss_cons (ds_append 3 rfl (de_call St (da_cons (de_call Af (da_cons (de_v 0) (da_cons (de_v 1) da_nil)) ⟨ps, od, w, h.ok, v.hps, rfl, rfl⟩) da_nil) ⟨_, _, hv.bd, rfl, rfl⟩) (by rw [List.length_map]; omega) (dss_freeze 3 rfl (dss_one (ds_ret (de_v 3) ?_))))
    show DV.lst _ = DV.lst _
    rw [← eL, List.map_append]
    rfl
  cases tn with
  | true =>
    refine dss_cons (ds_if (x := true) (dt_e (de_v 2)) (fun _ => dss_one (ds_lcO (own := [("left", 4)]) 3 scReadings.nd (by decide +kernel) (EvL.is (rL.ev (is := [4]) (ds := (tornOf ps od w).map fun s => stD s.1 s.2) (di_l (de_call To (da_cons (de_v 0) (da_cons (de_v 1) da_nil)) ⟨ls, ps, od, w, v, h, rfl, rfl⟩)) ?_ (by decide)
      (fun d => [.val (stD ps od), .val (Wr.d w), .val (.bl true), .un, .val d]) (fun _ => true) (fun d => match d with | .tup [.tup a, .tup b] => .str (textOf (a.map fun x => match x with | .str z => z | _ => ⟨#[]⟩) (b.map fun x => match x with | .int i => i.toNat | _ => 0)) | _ => .non) (fun d hd => dg_n 4 scReadings.nd) (fun d hd => dts_nil) (fun d hd _ => ?_)) ?_) (rest ((tornOf ps od w).map fun s => textOf s.1 s.2) ?_ rfl))) fun h => by cases h)
    · rw [List.length_map]
      exact Nat.le_trans (tornOf_len h) (by decide)
    · rw [List.mem_map] at hd
      obtain ⟨s, hs, rfl⟩ := hd
      refine de_call St (da_cons (de_v 4) da_nil) ⟨s.1, s.2, tornOf_bd v h s hs, rfl, ?_⟩
      show DV.str (textOf ((psD s.1).map _) ((odD s.2).map _)) = _
      unfold psD odD
      rw [List.map_map, List.map_map]
      congr 2
      · exact (List.map_congr_left fun x _ => rfl).trans (List.map_id _)
      · exact (List.map_congr_left fun x _ => Int.toNat_natCast x).trans (List.map_id _)
    · rw [filt, List.map_map, List.map_map]
      refine List.map_congr_left fun s _ => ?_
      show DV.str (textOf ((psD s.1).map _) ((odD s.2).map _)) = DV.str (textOf s.1 s.2)
      unfold psD odD
      rw [List.map_map, List.map_map]
      congr 2
      · exact (List.map_congr_left fun x _ => rfl).trans (List.map_id _)
      · exact (List.map_congr_left fun x _ => Int.toNat_natCast x).trans (List.map_id _)
    · rw [List.length_map]
      exact tornOf_len h
  | false =>
    exact dss_cons (ds_if (x := false) (dt_e (de_v 2)) (fun h => by cases h) fun _ => dss_one (ds_setL 3 scReadings.nd (dl_lst (da_cons (de_call St (da_cons (de_v 0) da_nil) ⟨ps, od, v.bd, rfl, rfl⟩) da_nil)) (rest [textOf ps od] (show 1 ≤ 3 by decide) rfl)))
theorem scIsSafe : FnScope ["state", "write", "torn", "text", "allowed", "reading"] ["state", "write", "torn", "text"] (defScope sIsSafe) := ⟨rfl, rfl, rfl, by decide +kernel, rfl, by decide +kernel, by decide +kernel⟩
def R_issafe : List DV → DV → Prop := fun ds d => ∃ ls ps od w tn t, VS ls ps od ∧ VW ls ps.length w ∧ ds = [stD ps od, Wr.d w, .bl tn, .str t] ∧ d = .bl (safeOf ps od w tn t)
theorem readingsOf_len {ls : Str} {ps : List Str} {od : List Nat} {w : Wr} {tn : Bool} (h : VW ls ps.length w) : (readingsOf ps od w tn).length ≤ 4 := by
  unfold readingsOf
  rw [List.length_append]
  have := tornOf_len (od := od) h
  cases tn
  · show 1 + 1 ≤ 4
    decide
  · rw [if_pos rfl, List.length_map]
    show _ + 1 ≤ 4
    omega
theorem ok_issafe (B : Bt g) (St : Fn g 1 "state_text" R_stext) (Re : Fn g 3 "state_readings" R_readings) {f : Addr} {fd : FuncData} (F : Fun g.K "is_safe_write" "is_safe_write" sIsSafe f fd) : FnOk g.P g.w g.K g.mg g.base CX0 4 f fd ["state", "write", "torn", "text"] (spR g.K R_issafe) := by
  refine fn_ok F scIsSafe (fun ds d ⟨ls, ps, od, w, tn, t, _, _, e, _⟩ => by rw [e]; rfl) fun ds d ⟨ls, ps, od, w, tn, t, v, h, e, ed⟩ => ?_
  subst e ed
  refine dss_cons (ds_set 4 scIsSafe.nd (de_tup (da_cons (de_call St (da_cons (de_v 0) da_nil) ⟨ps, od, v.bd, rfl, rfl⟩) (da_cons (de_v 3) da_nil))) (dss_one (ds_ret (de_all (bs := (readingsOf ps od w tn).map (okText (textOf ps od) t)) B.all (DE.is (dl_rL (own := [("reading", 5)]) scIsSafe.nd (by decide +kernel) (rL.ev (is := [5]) (di_l (de_call Re (da_cons (de_v 0) (da_cons (de_v 1) (da_cons (de_v 2) da_nil))) ⟨ls, ps, od, w, tn, v, h, rfl, rfl⟩)) ?_ (by decide)
    (fun d => [.val (stD ps od), .val (Wr.d w), .val (.bl tn), .val (.str t), .val (.tup [.str (textOf ps od), .str t]), .val d]) (fun _ => true) (fun d => .bl (inD d [.str (textOf ps od), .str t])) (fun d hd => dg_n 5 scIsSafe.nd) (fun d hd => dts_nil) (fun d hd _ => ?_))).de ?_)) ?_)))
  · rw [List.length_map]
    exact Nat.le_trans (readingsOf_len h) (by decide)
  · rw [List.mem_map] at hd
    obtain ⟨s, hs, rfl⟩ := hd
    exact de_in rfl rfl rfl (de_v 5) (de_v 4)
  · rw [filt, List.map_map, List.map_map]
    rfl
  · show DV.bl _ = DV.bl _
    rw [List.all_map]
    rfl
theorem scSWrite : FnScope ["letters", "state", "value", "pieces", "order"] ["letters", "state", "value"] (defScope sSWrite) := ⟨rfl, rfl, rfl, by decide +kernel, rfl, by decide +kernel, by decide +kernel⟩
def R_swrite : List DV → DV → Prop := fun ds d => ∃ (ls : Str) (ps : List Str) (od : List Nat) (v : DV), ps.length ≤ 4 ∧ fit v = true ∧ ds = [.str ls, stD ps od, v] ∧ d = .bl (isWr ls ps od v)
theorem fits2 {a b : DV} (h : fits [a, b] = true) : fit a = true ∧ fit b = true := ⟨fits_mem h (by simp), fits_mem h (by simp)⟩
theorem fits3 {a b c : DV} (h : fits [a, b, c] = true) : fit a = true ∧ fit b = true ∧ fit c = true := ⟨fits_mem h (by simp), fits_mem h (by simp), fits_mem h (by simp)⟩
theorem ok_swrite (B : Bt g) (Pi : Fn g 2 "is_piece" R_piece) (Bl : Fn g 2 "is_block" R_block) (Od : Fn g 3 "is_order" R_order) {f : Addr} {fd : FuncData} (F : Fun g.K "is_state_write" "is_state_write" sSWrite f fd) : FnOk g.P g.w g.K g.mg g.base CX0 4 f fd ["letters", "state", "value"] (spR g.K R_swrite) := by
  refine fn_ok F scSWrite (fun ds d ⟨ls, ps, od, v, _, _, e, _⟩ => by rw [e]; rfl) fun ds d ⟨ls, ps, od, v, hps, hf, e, ed⟩ => ?_
  subst e ed
  have hk := fit_obj hf
  refine dss_cons (ds_asg (de_v 1) (dg_tup (dgs_cons (dg_n 3 scSWrite.nd) (dgs_cons (dg_n 4 scSWrite.nd) dgs_nil))) ?_)
  cases v with
  | tup xs =>
    obtain ⟨hl, hfs⟩ := fit_tup hf
    have stop : ∀ (E : Po), E.rt (.bl false) → (!inD (.int xs.length) [.int 2, .int 3]) = true → DSs g ⟨3, ["letters", "state", "value", "pieces", "order"], defScope sSWrite, fun _ => true, true, none⟩ ((defBody sSWrite).drop 1) [.val (.str ls), .val (stD ps od), .val (.tup xs), .val (.tup (psD ps)), .val (.tup (odD od))] E := fun E hE hn =>
      dss_cons (ds_if (x := true) (dt_w (dw_or (x := false) (y := true) (dt_not (dt_e (de_isTup B hk (de_v 2)))) fun _ => dw_or (x := true) (y := true) (DT.is (dt_notIn rfl rfl rfl (de_len B.len rfl (de_v 2)) (de_tup (da_cons de_int (da_cons de_int da_nil)))) hn) fun z => by cases z)) (fun h => dss_one (ds_ret de_bl hE)) fun h => by cases h)
    have go : ∀ (E : Po) (a : DV) (r : List DV), xs = a :: r → (!inD (.int xs.length) [.int 2, .int 3]) = false → (a.isStr = false → E.rt (.bl false)) → (a.isStr = true → DSs g ⟨3, ["letters", "state", "value", "pieces", "order"], defScope sSWrite, fun _ => true, true, none⟩ ((defBody sSWrite).drop 2) [.val (.str ls), .val (stD ps od), .val (.tup xs), .val (.tup (psD ps)), .val (.tup (odD od))] E) →
        DSs g ⟨3, ["letters", "state", "value", "pieces", "order"], defScope sSWrite, fun _ => true, true, none⟩ ((defBody sSWrite).drop 1) [.val (.str ls), .val (stD ps od), .val (.tup xs), .val (.tup (psD ps)), .val (.tup (odD od))] E := fun E a r ex hn h1 h2 => by
      have ha : fit a = true := fits_mem hfs (by rw [ex]; exact List.mem_cons_self ..)
      refine dss_cons (ds_if (x := !a.isStr) (DT.is (dt_w (dw_or (x := false) (y := !a.isStr) (dt_not (dt_e (de_isTup B hk (de_v 2)))) fun _ => dw_or (x := false) (y := !a.isStr) (DT.is (dt_notIn rfl rfl rfl (de_len B.len rfl (de_v 2)) (de_tup (da_cons de_int (da_cons de_int da_nil)))) hn) fun _ => dw_or1 (dt_not (dt_e (de_isStr B (fit_obj ha) (de_ixT (xs := xs) (i := 0) (d := a) (by rw [ex]; exact atI_nat (j := 0) rfl) (de_v 2) de_int)))))) (by simp)) (fun h => dss_one (ds_ret de_bl (h1 (by simpa using h)))) fun h => dss_nil (h2 (by simpa using h)))
    match xs, hfs, hf, stop, go with
    | [], _, _, stop, _ => exact stop _ rfl rfl
    | [a], _, _, stop, _ => exact stop _ (by show DV.bl false = DV.bl (isWr ls ps od (.tup [a])); cases a <;> rfl) rfl
    | [a, b], hfs, hf, _, go =>
      refine go _ a [b] rfl rfl (fun h => ?_) fun h => ?_
      · show DV.bl false = DV.bl (isWr ls ps od (.tup [a, b]))
        cases a <;> first | rfl | cases h
      · obtain ⟨s, rfl⟩ : ∃ s, a = .str s := by cases a <;> first | exact ⟨_, rfl⟩ | cases h
        obtain ⟨h1, h2⟩ := fits2 hfs
        refine dss_cons (ds_if (x := true) (DT.is (dt_eqI (de_len (ds := [.str s, b]) B.len rfl (de_v 2)) de_int) (show decide ((2 : Int) = 2) = true by decide)) (fun _ => dss_one (ds_ret (d := .bl (isWr ls ps od (.tup [.str s, b]))) (DE.is (de_and (x := decide (s = "order")) (y := isOrder ps.length b && !b.eqv (.tup (odD od))) (de_eqS (de_ixT (xs := [.str s, b]) (i := 0) (d := .str s) rfl (de_v 2) de_int) de_str) fun _ => de_and (x := isOrder ps.length b)
          (de_call Od (da_cons (de_len B.len rfl (de_v 3)) (da_cons (de_ixT (xs := [.str s, b]) (i := 1) (d := b) rfl (de_v 2) de_int) da_nil)) ⟨ps.length, b, by rw [psD_len], h2, rfl⟩) fun ho => de_one ?_) ?_) rfl)) fun h => by cases h)
        · obtain ⟨o, rfl, _, _⟩ := isOrder_form ho
          exact de_neD (ok_odD _) (ok_odD _) (de_ixT (xs := [.str s, .tup (odD o)]) (i := 1) (d := .tup (odD o)) rfl (de_v 2) de_int) (de_v 4)
        · show DV.bl _ = DV.bl (decide (s = "order") && isOrder ps.length b && !b.eqv (.tup (odD od)))
          rw [Bool.and_assoc]
    | [a, b, c], hfs, hf, _, go =>
      refine go _ a [b, c] rfl rfl (fun h => ?_) fun h => ?_
      · show DV.bl false = DV.bl (isWr ls ps od (.tup [a, b, c]))
        cases a <;> first | rfl | cases h
      · obtain ⟨s, rfl⟩ : ∃ s, a = .str s := by cases a <;> first | exact ⟨_, rfl⟩ | cases h
        obtain ⟨h1, h2, h3⟩ := fits3 hfs
        refine dss_cons (ds_if (x := false) (DT.is (dt_eqI (de_len (ds := [.str s, b, c]) B.len rfl (de_v 2)) de_int) (show decide ((3 : Int) = 2) = false by decide)) (fun h => by cases h) fun _ => dss_nil (dss_cons (ds_if (x := !decide (s = "piece") || !isBlock ps.length b) (dt_w (dw_or (y := !isBlock ps.length b) (dt_neS (de_ixT (xs := [.str s, b, c]) (i := 0) (d := .str s) rfl (de_v 2) de_int) de_str) fun _ => dw_or1 (dt_not (dt_e
          (de_call Bl (da_cons (de_len B.len rfl (de_v 3)) (da_cons (de_ixT (xs := [.str s, b, c]) (i := 1) (d := b) rfl (de_v 2) de_int) da_nil)) ⟨ps.length, b, by rw [psD_len], h2, rfl⟩))))) (fun h => dss_one (ds_ret de_bl ?_)) fun h => dss_nil ?_)))
        · show DV.bl false = DV.bl (decide (s = "piece") && isBlock ps.length b && isWord ls 2 c && _)
          congr 1
          cases q1 : decide (s = "piece") <;> cases q2 : isBlock ps.length b <;> rw [q1, q2] at h <;> first | rfl | cases h
        · have hs : decide (s = "piece") = true ∧ isBlock ps.length b = true := by
            cases q1 : decide (s = "piece") <;> cases q2 : isBlock ps.length b <;> rw [q1, q2] at h <;> first | exact ⟨rfl, rfl⟩ | cases h
          obtain ⟨i, rfl⟩ : ∃ i, b = .int i := by cases b <;> first | exact ⟨_, rfl⟩ | exact absurd hs.2 (by simp [isBlock])
          have hb := hs.2
          unfold isBlock at hb
          rw [Bool.and_eq_true, decide_eq_true_eq, decide_eq_true_eq] at hb
          obtain ⟨k, rfl⟩ : ∃ k : Nat, i = (k : Int) := ⟨i.toNat, by omega⟩
          have hk' : k < ps.length := by omega
          refine dss_one (ds_ret (d := .bl (isWr ls ps od (.tup [.str s, .int k, c]))) (DE.is (de_and (x := isWord ls 2 c) (y := !(match c with | .str z => decide (z = oldP ps k) | _ => false)) (de_call Pi (da_cons (de_v 0) (da_cons (de_ixT (xs := [.str s, .int k, c]) (i := 2) (d := c) rfl (de_v 2) de_int) da_nil)) ⟨ls, c, rfl, h3, rfl⟩) fun hw => de_one ?_) ?_) rfl)
          · cases c <;> first | cases hw | skip
            exact de_neS (de_ixT (xs := [.str s, .int k, .str _]) (i := 2) (d := .str _) rfl (de_v 2) de_int) (de_ixT (atI_nat (psD_get (get_piece hk'))) (de_v 3) (de_ixT (xs := [.str s, .int k, .str _]) (i := 1) (d := .int k) rfl (de_v 2) de_int))
          · show DV.bl _ = DV.bl (decide (s = "piece") && isBlock ps.length (.int k) && isWord ls 2 c && !_)
            rw [hs.1, hs.2]
            cases c <;> rfl
    | a :: b :: c :: d :: r, _, _, stop, _ =>
      refine stop _ ?_ ?_
      · show DV.bl false = DV.bl (isWr ls ps od (.tup (a :: b :: c :: d :: r)))
        cases a <;> rfl
      · have e : ∀ n : Int, 4 ≤ n → inD (.int n) [.int 2, .int 3] = false := fun n hn => by
          show ((2 : Int) == n || ((3 : Int) == n || false)) = false
          rw [Bool.or_false, Bool.or_eq_false_iff, beq_eq_false_iff_ne, beq_eq_false_iff_ne]
          constructor <;> omega
        rw [e _ (by simp only [List.length_cons]; omega)]
        rfl
  | _ => exact dss_cons (ds_if (x := true) (dt_w (dw_or (x := true) (y := true) (dt_not (dt_e (de_isTup B hk (de_v 2)))) fun z => by cases z)) (fun h => dss_one (ds_ret de_bl rfl)) fun h => by cases h)
end SP

namespace SP
open PySem L2 PD
/-- a write that changes something -/
def chg (ps : List Str) (od : List Nat) : Wr → Bool
  | .piece b p => !decide (p = oldP ps b) | .order o => !decide (o = od)
theorem isWr_d {ls : Str} {ps : List Str} {od : List Nat} {w : Wr} (h : VW ls ps.length w) : isWr ls ps od w.d = chg ps od w := by
  cases w with
  | piece b p =>
    show (decide (("piece" : Str) = "piece") && isBlock ps.length (.int b) && isWord ls 2 (.str p) && !decide (p = oldP ps (b : Int).toNat)) = _
    have e1 : isBlock ps.length (.int b) = true := by
      show (decide ((0 : Int) ≤ b) && decide ((b : Int) < ps.length)) = true
      have := h.1
      rw [decide_eq_true (by omega), decide_eq_true (by omega)]
      rfl
    have e2 : isWord ls 2 (.str p) = true := h.2
    rw [e1, e2, Int.toNat_natCast, decide_eq_true rfl]
    rfl
  | order o =>
    show (decide (("order" : Str) = "order") && isOrder ps.length (.tup (odD o)) && !(DV.tup (odD o)).eqv (.tup (odD od))) = _
    rw [isOrder_of h.1 h.2, eqv_odD, decide_eq_true rfl]
    rfl
theorem pieces_word {ls : Str} (h : letterSet ls) : ∀ p ∈ piecesOf ls, wordOk ls 2 p = true := by rcases h with rfl | rfl <;> decide +kernel
theorem orders_ok {n : Nat} (h : n ≤ 4) : ∀ o ∈ ordersOf n, o.length ≤ 3 ∧ ∀ b ∈ o, b < n := by
  have z : ∀ n ≤ 4, ∀ o ∈ ordersOf n, o.length ≤ 3 ∧ ∀ b ∈ o, b < n := by decide +kernel
  exact z n h
theorem writes_ok {ls : Str} {ps : List Str} {od : List Nat} (v : VS ls ps od) : ∀ w ∈ writesOf ls ps od, VW ls ps.length w ∧ chg ps od w = true := by
  intro w hw
  unfold writesOf at hw
  rcases List.mem_append.mp hw with hw | hw
  · rw [List.mem_flatMap] at hw
    obtain ⟨q, hq, hw⟩ := hw
    rw [List.mem_map] at hw
    obtain ⟨p, hp, rfl⟩ := hw
    rw [List.mem_filter] at hp
    obtain ⟨q1, b⟩ := q
    have hb := List.mem_zipIdx_iff_getElem?.mp hq
    obtain ⟨hb1, hb2⟩ := List.getElem?_eq_some_iff.mp hb
    refine ⟨⟨hb1, pieces_word v.hls p hp.1⟩, ?_⟩
    have e : oldP ps b = q1 := by
      have := get_piece hb1
      rw [hb] at this
      exact (Option.some.inj this).symm
    show (!decide (p = oldP ps b)) = true
    rw [e]
    exact hp.2
  · rw [List.mem_map] at hw
    obtain ⟨o, ho, rfl⟩ := hw
    rw [List.mem_filter] at ho
    exact ⟨orders_ok v.hps o ho.1, ho.2⟩
theorem writes_len {ls : Str} {ps : List Str} {od : List Nat} (v : VS ls ps od) : (writesOf ls ps od).length ≤ 137 := by
  unfold writesOf
  rw [List.length_append, List.length_map, List.length_flatMap]
  have h2 := Nat.le_trans (List.length_filter_le (fun o => !decide (o = od)) (ordersOf ps.length)) (ordersOf_len v.hps)
  have hp13 := piecesOf_len v.hls
  have h1 := sum_le (l := ps.zipIdx.map fun p => (((piecesOf ls).filter fun n => !decide (n = p.1)).map fun n => Wr.piece p.2 n).length) (m := 13) (by
    intro x hx
    rw [List.mem_map] at hx
    obtain ⟨p, _, rfl⟩ := hx
    rw [List.length_map]
    exact Nat.le_trans (List.length_filter_le _ _) hp13)
  rw [List.length_map, List.length_zipIdx] at h1
  have := v.hps
  omega
end SP

namespace SP
open PySem PySem.Spec PyProof.Rows L2 PD
variable {g : Gb}
end SP

namespace SP
open PySem PySem.Spec PyProof.Rows L2 PD
variable {g : Gb}
/-- the module's numbers and letters -/
structure Cf (g : Gb) : Prop where
  mb : ∃ t, g.mg "MOST_BLOCKS" = some (.int 4 t)
  mp : ∃ t, g.mg "MOST_PRICE" = some (.int 5 t)
  sets : ∃ T, g.mg "LETTER_SETS" = some (.ref T) ∧ ∀ S, Rp g.K S (.ref T) (.tup [.str "ab", .str "abc"])
def isLets : DV → Bool
  | .str z => inD (.str z) [.str "ab", .str "abc"] | _ => false
theorem scIsLetters : FnScope ["value"] ["value"] (defScope sIsLetters) := ⟨rfl, rfl, rfl, by decide +kernel, rfl, by decide +kernel, by decide +kernel⟩
def R_isl : List DV → DV → Prop := fun ds d => ∃ v, fit v = true ∧ ds = [v] ∧ d = .bl (isLets v)
theorem ok_isl (B : Bt g) (C : Cf g) {f : Addr} {fd : FuncData} (F : Fun g.K "is_letters" "is_letters" sIsLetters f fd) : FnOk g.P g.w g.K g.mg g.base CX0 1 f fd ["value"] (spR g.K R_isl) := by
  refine fn_ok F scIsLetters (fun ds d ⟨v, _, e, _⟩ => by rw [e]; rfl) fun ds d ⟨v, hf, e, ed⟩ => ?_
  subst e ed
  have hk := fit_obj hf
  obtain ⟨T, hT, hr⟩ := C.sets
  cases v with
  | str z => exact dss_one (ds_ret (de_and (x := true) (de_isStr B hk (de_v 0)) fun _ => de_one (de_in rfl rfl rfl (de_v 0) (de_gl (v := .ref T) hT rfl hr))) rfl)
  | _ => exact dss_one (ds_ret (de_and (x := false) (y := true) (de_isStr B hk (de_v 0)) fun z => by cases z) rfl)
def arePieces (ls : Str) : DV → Bool
  | .tup xs => (decide (1 ≤ xs.length) && decide (xs.length ≤ 4)) && xs.all (isWord ls 2) | _ => false
theorem scArePieces : FnScope ["letters", "value", "piece"] ["letters", "value"] (defScope sArePieces) := ⟨rfl, rfl, rfl, by decide +kernel, rfl, by decide +kernel, by decide +kernel⟩
def R_arep : List DV → DV → Prop := fun ds d => ∃ (ls : Str) (v : DV), fit v = true ∧ ds = [.str ls, v] ∧ d = .bl (arePieces ls v)
theorem ok_arep (B : Bt g) (C : Cf g) (Pi : Fn g 2 "is_piece" R_piece) {f : Addr} {fd : FuncData} (F : Fun g.K "are_pieces" "are_pieces" sArePieces f fd) : FnOk g.P g.w g.K g.mg g.base CX0 3 f fd ["letters", "value"] (spR g.K R_arep) := by
  refine fn_ok F scArePieces (fun ds d ⟨ls, v, _, e, _⟩ => by rw [e]; rfl) fun ds d ⟨ls, v, hf, e, ed⟩ => ?_
  subst e ed
  have hk := fit_obj hf
  obtain ⟨t, ht⟩ := C.mb
  cases v with
  | tup xs =>
    obtain ⟨hl, hfs⟩ := fit_tup hf
    refine dss_cons (ds_if (x := !(decide (1 ≤ xs.length) && decide (xs.length ≤ 4))) (DT.is (dt_w (dw_or (x := false) (dt_not (dt_e (de_isTup B hk (de_v 1)))) fun _ => dw_or1 (dt_not (dt_leLe de_int (de_len B.len rfl (de_v 1)) (de_gl (v := .int 4) ht ⟨t, rfl⟩ fun S => .int 4))))) ?_) (fun h => dss_one (ds_ret de_bl ?_)) fun h => dss_nil (dss_one (ds_ret (de_all (bs := xs.map (isWord ls 2)) B.all (DE.is (dl_rL (own := [("piece", 2)]) scArePieces.nd (by decide +kernel) (rL.ev (is := [2]) (di_t (de_v 1)) hl (by decide)
      (fun d => [.val (.str ls), .val (.tup xs), .val d]) (fun _ => true) (fun d => .bl (isWord ls 2 d)) (fun d hd => dg_n 2 scArePieces.nd) (fun d hd => dts_nil) (fun d hd _ => de_call Pi (da_cons (de_v 0) (da_cons (de_v 2) da_nil)) ⟨ls, d, rfl, fits_mem hfs hd, rfl⟩))).de ?_)) ?_)))
    · rw [Bool.false_or]
      congr 1
      congr 1 <;> exact decide_eq_decide.mpr (by omega)
    · show DV.bl false = DV.bl (_ && _)
      rw [Bool.not_eq_true'] at h
      rw [h]
      rfl
    · rw [filt, List.map_map]
      rfl
    · show DV.bl _ = DV.bl (_ && _)
      rw [Bool.not_eq_false'] at h
      rw [h, List.all_map]
      rfl
  | _ => exact dss_cons (ds_if (x := true) (dt_w (dw_or (x := true) (y := true) (dt_not (dt_e (de_isTup B hk (de_v 1)))) fun z => by cases z)) (fun h => dss_one (ds_ret de_bl rfl)) fun h => by cases h)
def isPrice : DV → Bool
  | .int i => decide (1 ≤ i) && decide (i ≤ 5) | _ => false
theorem scIsPrice : FnScope ["value"] ["value"] (defScope sIsPrice) := ⟨rfl, rfl, rfl, by decide +kernel, rfl, by decide +kernel, by decide +kernel⟩
def R_price : List DV → DV → Prop := fun ds d => ∃ v, fit v = true ∧ ds = [v] ∧ d = .bl (isPrice v)
theorem ok_price (C : Cf g) (N : Fn g 1 "is_number" R_number) {f : Addr} {fd : FuncData} (F : Fun g.K "is_price" "is_price" sIsPrice f fd) : FnOk g.P g.w g.K g.mg g.base CX0 2 f fd ["value"] (spR g.K R_price) := by
  refine fn_ok F scIsPrice (fun ds d ⟨v, _, e, _⟩ => by rw [e]; rfl) fun ds d ⟨v, hf, e, ed⟩ => ?_
  subst e ed
  have hk := fit_obj hf
  obtain ⟨t, ht⟩ := C.mp
  cases v with
  | int i => exact dss_one (ds_ret (de_and (x := true) (de_call N (da_cons (de_v 0) da_nil) ⟨_, rfl, hk, rfl⟩) fun _ => de_one (de_leLe de_int (de_v 0) (de_gl (v := .int 5) ht ⟨t, rfl⟩ fun S => .int 5))) rfl)
  | _ => exact dss_one (ds_ret (de_and (x := false) (y := true) (de_call N (da_cons (de_v 0) da_nil) ⟨_, rfl, hk, rfl⟩) fun z => by cases z) rfl)
/-! the class -/
def fgs (ls : Str) (ps : List Str) (od : List Nat) (pp op : Int) (tn : Bool) : List (Str × DV) := [("_letters", .str ls), ("_pieces", .tup (psD ps)), ("_order", .tup (odD od)), ("_piece_price", .int pp), ("_order_price", .int op), ("_torn", .bl tn)]
theorem fgs_ls {ls ps od pp op tn} : (fgs ls ps od pp op tn).lookup ("_letters" : Str) = some (.str ls) := by unfold fgs; rw [List.lookup_cons_self]
theorem look_ne {n m : Str} {d : DV} {r : List (Str × DV)} (h : (n == m) = false) : List.lookup n ((m, d) :: r) = List.lookup n r := by rw [List.lookup_cons, h]
theorem fgs_ps {ls ps od pp op tn} : (fgs ls ps od pp op tn).lookup ("_pieces" : Str) = some (.tup (psD ps)) := by unfold fgs; rw [look_ne (by decide +kernel), List.lookup_cons_self]
theorem fgs_od {ls ps od pp op tn} : (fgs ls ps od pp op tn).lookup ("_order" : Str) = some (.tup (odD od)) := by unfold fgs; rw [look_ne (by decide +kernel), look_ne (by decide +kernel), List.lookup_cons_self]
theorem fgs_pp {ls ps od pp op tn} : (fgs ls ps od pp op tn).lookup ("_piece_price" : Str) = some (.int pp) := by unfold fgs; rw [look_ne (by decide +kernel), look_ne (by decide +kernel), look_ne (by decide +kernel), List.lookup_cons_self]
theorem fgs_op {ls ps od pp op tn} : (fgs ls ps od pp op tn).lookup ("_order_price" : Str) = some (.int op) := by unfold fgs; rw [look_ne (by decide +kernel), look_ne (by decide +kernel), look_ne (by decide +kernel), look_ne (by decide +kernel), List.lookup_cons_self]
theorem fgs_tn {ls ps od pp op tn} : (fgs ls ps od pp op tn).lookup ("_torn" : Str) = some (.bl tn) := by unfold fgs; rw [look_ne (by decide +kernel), look_ne (by decide +kernel), look_ne (by decide +kernel), look_ne (by decide +kernel), look_ne (by decide +kernel), List.lookup_cons_self]
structure Fl (g : Gb) (C : Addr) : Prop where
  kl : Kl g C "File"
  n1 : NoAttr g.K C "_letters"
  n2 : NoAttr g.K C "_pieces"
  n3 : NoAttr g.K C "_order"
  n4 : NoAttr g.K C "_piece_price"
  n5 : NoAttr g.K C "_order_price"
  n6 : NoAttr g.K C "_torn"
/-- return self.x -/
def R_get (C : Addr) (n : Str) : List DV → DV → Prop := fun ds d => ∃ gs, ds = [.obj C gs] ∧ gs.lookup n = some d
theorem ok_get {C : Addr} {x qual n : Str} {st : Stmt} {p1 p2 p3 : Pos} {f : Addr} {fd : FuncData} (c : Cls g.K C) (hn : NoAttr g.K C n) (S : FnScope ["self"] ["self"] (defScope st)) (hb : defBody st = [.Return (some (.Attribute (.Name "self" p1) n p2)) p3]) (F : Fun g.K x qual st f fd) : FnOk g.P g.w g.K g.mg g.base CX0 1 f fd ["self"] (spR g.K (R_get C n)) := by
  refine fn_ok F S (fun ds d ⟨gs, e, _⟩ => by rw [e]; rfl) fun ds d ⟨gs, e, hl⟩ => ?_
  subst e
  rw [hb]
  exact dss_one (ds_ret (de_fld c hn hl (de_v 0 rfl rfl ((S.par "self" (List.Mem.head _)).elim (fun z => .inl z) fun z => .inr (.inl z)))) rfl)
theorem scFText : FnScope ["self"] ["self"] (defScope sFText) := ⟨rfl, rfl, rfl, by decide +kernel, rfl, by decide +kernel, by decide +kernel⟩
def fileD (C : Addr) (ls : Str) (ps : List Str) (od : List Nat) (pp op : Int) (tn : Bool) : DV := .obj C (fgs ls ps od pp op tn)
def R_ftext (C : Addr) : List DV → DV → Prop := fun ds d => ∃ ls ps od pp op tn, Bd ps od ∧ ds = [fileD C ls ps od pp op tn] ∧ d = .str (textOf ps od)
theorem ok_ftext {C : Addr} (L : Fl g C) (St : Fn g 1 "state_text" R_stext) {f : Addr} {fd : FuncData} (F : Fun g.K "text" "File.text" sFText f fd) : FnOk g.P g.w g.K g.mg g.base CX0 2 f fd ["self"] (spR g.K (R_ftext C)) := by
  refine fn_ok F scFText (fun ds d ⟨ls, ps, od, pp, op, tn, _, e, _⟩ => by rw [e]; rfl) fun ds d ⟨ls, ps, od, pp, op, tn, h, e, ed⟩ => ?_
  subst e ed
  exact dss_one (ds_ret (de_call St (da_cons (de_tup (da_cons (de_fld L.kl.c L.n2 fgs_ps (de_v 0)) (da_cons (de_fld L.kl.c L.n3 fgs_od (de_v 0)) da_nil))) da_nil) ⟨ps, od, h, rfl, rfl⟩) rfl)
theorem range_int {lo : Int} {n : Nat} {d : DV} (h : d ∈ rangeD lo n) : ∃ i, d = .int i := by
  unfold rangeD at h
  rw [List.mem_map] at h
  obtain ⟨b, _, rfl⟩ := h
  exact ⟨_, rfl⟩
end SP

namespace SP
open PySem PySem.Spec PyProof.Rows L2 PD
variable {g : Gb}
theorem word_ok {ls z : Str} {m : Nat} (hl : letterSet ls) (h : wordOk ls m z = true) : PyData.strOk z = true := by
  unfold wordOk at h
  rw [Bool.and_eq_true] at h
  unfold PyData.strOk
  rw [← Array.all_toList, List.all_eq_true]
  intro c hc
  have h1 := List.all_eq_true.mp h.2 c hc
  have h2 : c ∈ ls.cps.toList := of_decide_eq_true h1
  have h3 : ∀ c ∈ ls.cps.toList, c < 1114112 := by rcases hl with rfl | rfl <;> decide +kernel
  exact decide_eq_true (h3 c h2)
theorem plain_psD {ps : List Str} (h : ∀ p ∈ ps, PyData.strOk p = true) : plainAll (psD ps) = true := by
  induction ps with
  | nil => simp [psD, plainAll]
  | cons p ps ih =>
    show plainAll (DV.str p :: psD ps) = true
    rw [plainAll, ih fun q hq => h q (List.mem_cons_of_mem _ hq), DV.plain, h p (List.mem_cons_self ..)]
    rfl
theorem dep_psD : ∀ ps : List Str, depAll (psD ps) = 0
  | [] => by simp [psD, depAll]
  | p :: ps => by
    show depAll (DV.str p :: psD ps) = 0
    rw [depAll, dep_psD ps, DV.dep]
    rfl
theorem VS.str {ls : Str} {ps : List Str} {od : List Nat} (v : VS ls ps od) : ∀ p ∈ ps, PyData.strOk p = true := fun p hp => word_ok v.hls (v.hp p hp)
/-! making a file -/
theorem scFInit : FnScope ["self", "letters", "pieces", "order", "piece_price", "order_price", "torn"] ["self", "letters", "pieces", "order", "piece_price", "order_price", "torn"] (defScope sFInit) := ⟨rfl, rfl, rfl, by decide +kernel, rfl, by decide +kernel, by decide +kernel⟩
def R_finit : List DV → List (Str × DV) → Prop := fun ds gs => ∃ ls ps od pp op tn, VS ls ps od ∧ (1 ≤ pp ∧ pp ≤ 5) ∧ (1 ≤ op ∧ op ≤ 5) ∧ ds = [.str ls, .tup (psD ps), .tup (odD od), .int pp, .int op, .bl tn] ∧ gs = fgs ls ps od pp op tn
theorem En.push {K : PySem.W.Frag} {H0 S H : Hp} {σ : L2.St} {ρ : Rho} (v : Option V) (n : En K H0 S H σ ρ) : En K H0 S H (v :: σ) (.un :: ρ) where
  len := congrArg (· + 1) n.len
  at_ := fun i u e a b => by
    cases i with
    | zero => cases b; trivial
    | succ i => exact n.at_ i u e a b
  sep := fun i j p q ds es hij a b c e => by
    cases i with
    | zero => cases a
    | succ i => cases j with
      | zero => cases b
      | succ j => exact n.sep i j p q ds es (fun z => hij (congrArg (· + 1) z)) a b c e
theorem if_skip {l : Lc} {c : Expr} {b : List Stmt} {t : TS} {D : Ends} {σ : L2.St} {S H H0 : Hp} {ρ : Rho} (h : DT g l c ρ false) (ex : Ex S H) (n : En g.K H0 S H σ ρ) (k : ∀ S' H', Go S H S' H' → t D σ H') : tSeq (tIfS (UT g l c) (USs g l b) tNext) t D σ H :=
  h H0 σ S H ex n _ fun S' H' g' => by
    rw [if_neg (by decide)]
    exact k S' H' g'
theorem fit_psD {ps : List Str} (h1 : ps.length ≤ 100000) (h : ∀ p ∈ ps, p.length ≤ 100000) : fit (.tup (psD ps)) = true := by
  rw [fit, Bool.and_eq_true, psD_len]
  refine ⟨decide_eq_true h1, ?_⟩
  have go : ∀ ps : List Str, (∀ p ∈ ps, p.length ≤ 100000) → fits (psD ps) = true := by
    intro ps
    induction ps with
    | nil => intro _; simp [psD, fits]
    | cons p ps ih =>
      intro h
      show fits (DV.str p :: psD ps) = true
      rw [fits, ih fun q hq => h q (List.mem_cons_of_mem _ hq), fit]
      rw [decide_eq_true (h p (List.mem_cons_self ..))]
      rfl
  exact go ps h
theorem fit_odD {od : List Nat} (h1 : od.length ≤ 100000) : fit (.tup (odD od)) = true := by
  rw [fit, Bool.and_eq_true, odD_len]
  refine ⟨decide_eq_true h1, ?_⟩
  have go : ∀ od : List Nat, fits (odD od) = true := by
    intro od
    induction od with
    | nil => simp [odD, fits]
    | cons p od ih =>
      show fits (DV.int (p : Int) :: odD od) = true
      rw [fits, ih, fit]
      rfl
  exact go od
theorem VS.fitP {ls : Str} {ps : List Str} {od : List Nat} (v : VS ls ps od) : fit (.tup (psD ps)) = true := fit_psD (Nat.le_trans v.hps (by decide)) fun p hp => Nat.le_trans (wordOk_len (v.hp p hp)) (by decide)
theorem VS.fitO {ls : Str} {ps : List Str} {od : List Nat} (v : VS ls ps od) : fit (.tup (odD od)) = true := fit_odD (Nat.le_trans v.hod (by decide))
theorem VS.isP {ls : Str} {ps : List Str} {od : List Nat} (v : VS ls ps od) : arePieces ls (.tup (psD ps)) = true := by
  show ((decide (1 ≤ (psD ps).length) && decide ((psD ps).length ≤ 4)) && (psD ps).all (isWord ls 2)) = true
  rw [psD_len, decide_eq_true v.hps1, decide_eq_true v.hps, Bool.true_and, Bool.true_and, List.all_eq_true]
  intro d hd
  unfold psD at hd
  rw [List.mem_map] at hd
  obtain ⟨p, hp, rfl⟩ := hd
  exact v.hp p hp
theorem lets_ok {ls : Str} (h : letterSet ls) : isLets (.str ls) = true := by rcases h with rfl | rfl <;> decide +kernel
theorem price_ok {p : Int} (h : 1 ≤ p ∧ p ≤ 5) : isPrice (.int p) = true := by
  show (decide (1 ≤ p) && decide (p ≤ 5)) = true
  rw [decide_eq_true h.1, decide_eq_true h.2]
  rfl
theorem put1 {a b : Str} {v w : V} {r : List (Str × V)} (h : ¬ a = b) : putF b w ((a, v) :: r) = (a, v) :: putF b w r := by
  show (if a = b then _ else _) = _
  rw [if_neg h]
theorem ok_finit {C : Addr} (B : Bt g) (L : Fl g C) (IL : Fn g 1 "is_letters" R_isl) (AP : Fn g 3 "are_pieces" R_arep) (IO : Fn g 3 "is_order" R_order) (IP : Fn g 2 "is_price" R_price) {kws : List (Str × V)} {f : Addr} {fd : FuncData} (F : FunD g.K "__init__" "File.__init__" (defArgs sFInit) (defBody sFInit) (defScope sFInit) [] kws f fd) :
    FnOk g.P g.w g.K g.mg g.base CX0 4 f fd ["self", "letters", "pieces", "order", "piece_price", "order_price", "torn"] (spI g.K C R_finit) := by
  refine F.ok scFInit (fun vs H Q E h => ?_) (fun cdv A outer s H vs Q E hr h => ?_)
  · obtain ⟨x, dx, vs', S, ds, gs, rfl, _, _, _, ra, ⟨ls, ps, od, pp, op, tn, _, _, _, rfl, _⟩, _⟩ := h
    show vs'.length + 1 = 7
    rw [ra.len]
    rfl
  · obtain ⟨x, dx, vs', S, ds, gs, rfl, hx, ex, nx, ra, ⟨ls, ps, od, pp, op, tn, v, hpp, hop, rfl, rfl⟩, q⟩ := h
    have hlz : ls.length ≤ 100000 := by rcases v.hls with rfl | rfl <;> decide
    cases ra with
    | cons r1 ra => cases ra with
    | cons r2 ra => cases ra with
    | cons r3 ra => cases ra with
    | cons r4 ra => cases ra with
    | cons r5 ra => cases ra with
    | cons r6 ra =>
    cases ra
    rename_i v1 v2 v3 v4 v5 v6
    have o : Of g ⟨3, ["self", "letters", "pieces", "order", "piece_price", "order_price", "torn"], defScope sFInit, fun _ => true, true, none⟩ (cxOf CX0 g.P g.w g.K g.mg g.base ["self", "letters", "pieces", "order", "piece_price", "order_price", "torn"] "File.__init__" (defScope sFInit) f cdv A outer s H E).nox := ⟨rfl, rfl, rfl, rfl, rfl, rfl, rfl, fun _ _ => rfl, fun _ => rfl, fun _ => hr, hr.un, fun _ => PassesOwn.never, fun _ _ _ h => by cases h⟩
    have n0 : En g.K H S H [some (.ref x), some v1, some v2, some v3, some v4, some v5, some v6] [.un, .val (.str ls), .val (.tup (psD ps)), .val (.tup (odD od)), .val (.int pp), .val (.int op), .val (.bl tn)] :=
      En.push _ (en_start (N := ["letters", "pieces", "order", "piece_price", "order_price", "torn"]) (.cons r1 (.cons r2 (.cons r3 (.cons r4 (.cons r5 (.cons r6 .nil)))))))
    have sw : ∀ (e : Expr) (o' : Expr) (nm : Str) (p : Pos) (k : Nat) (env : Env), swapsWith (.Name nm p) (some (.Attribute o' nm p)) k env = pure false := fun _ _ _ _ _ _ => rfl
    refine ⟨_, (pss_cons (ps_if (UT.pt o _) (USs.pss o _) pss_nil) (pss_cons (ps_if (UT.pt o _) (USs.pss o _) pss_nil) (pss_cons (ps_if (UT.pt o _) (USs.pss o _) pss_nil) (pss_cons (ps_if (UT.pt o _) (USs.pss o _) pss_nil) (pss_cons (ps_if (UT.pt o _) (USs.pss o _) pss_nil) (pss_cons (ps_if (UT.pt o _) (USs.pss o _) pss_nil)
      (pss_cons (ps_fld (pv 0) (pv 1) rfl) (pss_cons (ps_fld (pv 0) (pv 2) rfl) (pss_cons (ps_fld (pv 0) (pv 3) rfl) (pss_cons (ps_fld (pv 0) (pv 4) rfl) (pss_cons (ps_fld (pv 0) (pv 5) rfl) (pss_one (ps_fld (pv 0) (pv 6) rfl))))))))))))).nox, ?_⟩
    refine if_skip (DT.is (dt_not (dt_e (de_call IL (da_cons (de_v 1) da_nil) ⟨.str ls, by rw [fit]; exact decide_eq_true hlz, rfl, rfl⟩))) (by rw [lets_ok v.hls]; rfl)) ex n0 fun S1 H1 g1 => ?_
    refine if_skip (DT.is (dt_not (dt_e (de_call AP (da_cons (de_v 1) (da_cons (de_v 2) da_nil)) ⟨ls, _, v.fitP, rfl, rfl⟩))) (by rw [v.isP]; rfl)) g1.sub (n0.go g1) fun S2 H2 g2 => ?_
    refine if_skip (DT.is (dt_not (dt_e (de_call IO (da_cons (de_len B.len rfl (de_v 2)) (da_cons (de_v 3) da_nil)) ⟨ps.length, _, by rw [psD_len], v.fitO, rfl⟩))) (by rw [isOrder_of v.hod v.hb]; rfl)) g2.sub ((n0.go g1).go g2) fun S3 H3 g3 => ?_
    refine if_skip (DT.is (dt_not (dt_e (de_call IP (da_cons (de_v 4) da_nil) ⟨_, by rw [fit], rfl, rfl⟩))) (by rw [price_ok hpp]; rfl)) g3.sub (((n0.go g1).go g2).go g3) fun S4 H4 g4 => ?_
    refine if_skip (DT.is (dt_not (dt_e (de_call IP (da_cons (de_v 5) da_nil) ⟨_, by rw [fit], rfl, rfl⟩))) (by rw [price_ok hop]; rfl)) g4.sub ((((n0.go g1).go g2).go g3).go g4) fun S5 H5 g5 => ?_
    refine if_skip (DT.is (dt_not (dt_e (de_isBool B rfl (de_v 6)))) rfl) g5.sub (((((n0.go g1).go g2).go g3).go g4).go g5) fun S6 H6 g6 => ?_
    have gg : Go S H S6 H6 := g1.tr (g2.tr (g3.tr (g4.tr (g5.tr g6))))
    have n6 : S6 x = none := gg.off nx hx
    have hx6 : H6 x = some (.ins C dx []) := gg.h _ _ hx
    have c := L.kl.c
    refine ⟨v1, rfl, .ref x, rfl, x, C, dx, [], rfl, hx6, c, L.n1, (by show 0 < 1000; decide), ?_⟩
    refine ⟨v2, rfl, .ref x, rfl, x, C, dx, _, rfl, upd_same, c, L.n2, (by show 1 < 1000; decide), ?_⟩
    refine ⟨v3, rfl, .ref x, rfl, x, C, dx, [("_letters", v1), ("_pieces", v2)], rfl, Eq.trans upd_same (congrArg (fun q => some (HO.ins C dx q)) (put1 (by decide +kernel))), c, L.n3, (by show 2 < 1000; decide), ?_⟩
    refine ⟨v4, rfl, .ref x, rfl, x, C, dx, [("_letters", v1), ("_pieces", v2), ("_order", v3)], rfl, Eq.trans upd_same (congrArg (fun q => some (HO.ins C dx q)) ((put1 (by decide +kernel)).trans (congrArg _ (put1 (by decide +kernel))))), c, L.n4, (by show 3 < 1000; decide), ?_⟩
    refine ⟨v5, rfl, .ref x, rfl, x, C, dx, [("_letters", v1), ("_pieces", v2), ("_order", v3), ("_piece_price", v4)], rfl, Eq.trans upd_same (congrArg (fun q => some (HO.ins C dx q)) ((put1 (by decide +kernel)).trans (congrArg _ ((put1 (by decide +kernel)).trans (congrArg _ (put1 (by decide +kernel))))))), c, L.n5, (by show 4 < 1000; decide), ?_⟩
    refine ⟨v6, rfl, .ref x, rfl, x, C, dx, [("_letters", v1), ("_pieces", v2), ("_order", v3), ("_piece_price", v4), ("_order_price", v5)], rfl, Eq.trans upd_same (congrArg (fun q => some (HO.ins C dx q)) ((put1 (by decide +kernel)).trans (congrArg _ ((put1 (by decide +kernel)).trans (congrArg _ ((put1 (by decide +kernel)).trans (congrArg _ (put1 (by decide +kernel))))))))), c, L.n6, (by show 5 < 1000; decide), ?_⟩
    have e7 : putF "_torn" v6 ([("_letters", v1), ("_pieces", v2), ("_order", v3), ("_piece_price", v4), ("_order_price", v5)] : List (Str × V)) = ([("_letters", v1), ("_pieces", v2), ("_order", v3), ("_piece_price", v4), ("_order_price", v5), ("_torn", v6)] : List (Str × V)) :=
      (put1 (by decide +kernel)).trans (congrArg _ ((put1 (by decide +kernel)).trans (congrArg _ ((put1 (by decide +kernel)).trans (congrArg _ ((put1 (by decide +kernel)).trans (congrArg _ (put1 (by decide +kernel)))))))))
    refine q S6 _ _ ⟨gg.s, fun a u z => ?_, fun a u z => ?_, fun a u z z' => ?_⟩ n6 (Eq.trans upd_same (congrArg (fun q => some (HO.ins C dx q)) e7)) (.cons (r1.up gg.s) (.cons (r2.up gg.s) (.cons (r3.up gg.s) (.cons (r4.up gg.s) (.cons (r5.up gg.s) (.cons (r6.up gg.s) .nil))))))
    · by_cases w : a = x
      · have z2 : (if a = x then none else H a) = some u := z
        rw [if_pos w] at z2
        cases z2
      · have z2 : (if a = x then none else H a) = some u := z
        rw [if_neg w] at z2
        rw [upd_ne w, upd_ne w, upd_ne w, upd_ne w, upd_ne w, upd_ne w]
        exact gg.h a u z2
    · have w : a ≠ x := fun w => by rw [w, n6] at z; cases z
      rw [upd_ne w, upd_ne w, upd_ne w, upd_ne w, upd_ne w, upd_ne w]
      exact gg.sub a u z
    · show (if a = x then none else H a) = none
      by_cases w : a = x
      · rw [if_pos w]
      · rw [if_neg w]
        exact gg.new a u z z'
end SP

namespace SP
open PySem PySem.Spec PyProof.Rows L2 PD
variable {g : Gb}
/-- what the class has -/
structure Fp (g : Gb) (C : Addr) : Prop where
  ls : Pr g 1 C "letters" (R_get C "_letters")
  ps : Pr g 1 C "pieces" (R_get C "_pieces")
  od : Pr g 1 C "order" (R_get C "_order")
  pp : Pr g 1 C "piece_price" (R_get C "_piece_price")
  op : Pr g 1 C "order_price" (R_get C "_order_price")
  tn : Pr g 1 C "torn" (R_get C "_torn")
  make : Mf g 4 3 ["piece_price", "order_price", "torn"] C "File" [] R_finit
section
variable {l : Lc} {ρ : Rho} {e : Expr} {pos : Pos} {C : Addr} {ls : Str} {ps : List Str} {od : List Nat} {pp op : Int} {tn : Bool}
theorem de_ls (L : Fl g C) (P : Fp g C) (h : DE g l e ρ (fileD C ls ps od pp op tn)) (hk : 2 ≤ l.k := by decide) (hab : ∀ env, attributeBase e "letters" env (eval e env) = eval e env := by intro _; rfl) (hcl : l.cb = true := by rfl) : DE g l (.Attribute e "letters" pos) ρ (.str ls) := de_prop L.kl.c P.ls ⟨_, rfl, fgs_ls⟩ h hk hab (hcl := hcl)
theorem de_ps (L : Fl g C) (P : Fp g C) (h : DE g l e ρ (fileD C ls ps od pp op tn)) (hk : 2 ≤ l.k := by decide) (hab : ∀ env, attributeBase e "pieces" env (eval e env) = eval e env := by intro _; rfl) (hcl : l.cb = true := by rfl) : DE g l (.Attribute e "pieces" pos) ρ (.tup (psD ps)) := de_prop L.kl.c P.ps ⟨_, rfl, fgs_ps⟩ h hk hab (hcl := hcl)
theorem de_od (L : Fl g C) (P : Fp g C) (h : DE g l e ρ (fileD C ls ps od pp op tn)) (hk : 2 ≤ l.k := by decide) (hab : ∀ env, attributeBase e "order" env (eval e env) = eval e env := by intro _; rfl) (hcl : l.cb = true := by rfl) : DE g l (.Attribute e "order" pos) ρ (.tup (odD od)) := de_prop L.kl.c P.od ⟨_, rfl, fgs_od⟩ h hk hab (hcl := hcl)
theorem de_pp (L : Fl g C) (P : Fp g C) (h : DE g l e ρ (fileD C ls ps od pp op tn)) (hk : 2 ≤ l.k := by decide) (hab : ∀ env, attributeBase e "piece_price" env (eval e env) = eval e env := by intro _; rfl) (hcl : l.cb = true := by rfl) : DE g l (.Attribute e "piece_price" pos) ρ (.int pp) := de_prop L.kl.c P.pp ⟨_, rfl, fgs_pp⟩ h hk hab (hcl := hcl)
theorem de_oq (L : Fl g C) (P : Fp g C) (h : DE g l e ρ (fileD C ls ps od pp op tn)) (hk : 2 ≤ l.k := by decide) (hab : ∀ env, attributeBase e "order_price" env (eval e env) = eval e env := by intro _; rfl) (hcl : l.cb = true := by rfl) : DE g l (.Attribute e "order_price" pos) ρ (.int op) := de_prop L.kl.c P.op ⟨_, rfl, fgs_op⟩ h hk hab (hcl := hcl)
theorem de_tn (L : Fl g C) (P : Fp g C) (h : DE g l e ρ (fileD C ls ps od pp op tn)) (hk : 2 ≤ l.k := by decide) (hab : ∀ env, attributeBase e "torn" env (eval e env) = eval e env := by intro _; rfl) (hcl : l.cb = true := by rfl) : DE g l (.Attribute e "torn" pos) ρ (.bl tn) := de_prop L.kl.c P.tn ⟨_, rfl, fgs_tn⟩ h hk hab (hcl := hcl)
end
variable {C : Addr}
theorem scCheckFile : FnScope ["file"] ["file"] (defScope sCheckFile) := ⟨rfl, rfl, rfl, by decide +kernel, rfl, by decide +kernel, by decide +kernel⟩
def R_cfile (C : Addr) : List DV → DV → Prop := fun ds d => ∃ gs, ds = [.obj C gs] ∧ d = .non
theorem ok_cfile (B : Bt g) (L : Fl g C) {f : Addr} {fd : FuncData} (F : Fun g.K "check_file" "check_file" sCheckFile f fd) : FnOk g.P g.w g.K g.mg g.base CX0 1 f fd ["file"] (spR g.K (R_cfile C)) := by
  refine fn_ok F scCheckFile (fun ds d ⟨gs, e, _⟩ => by rw [e]; rfl) fun ds d ⟨gs, e, ed⟩ => ?_
  subst e ed
  exact dss_one (ds_if (x := false) (dt_not (dt_e (de_isOwn B L.kl (de_v 0)))) (fun h => by cases h) fun _ => dss_nil rfl)
theorem scCheckGoal : FnScope ["file", "text"] ["file", "text"] (defScope sCheckGoal) := ⟨rfl, rfl, rfl, by decide +kernel, rfl, by decide +kernel, by decide +kernel⟩
def R_cgoal (C : Addr) : List DV → DV → Prop := fun ds d => ∃ ls ps od pp op tn t, wordOk ls 6 t = true ∧ ds = [fileD C ls ps od pp op tn, .str t] ∧ d = .non
theorem ok_cgoal (L : Fl g C) (P : Fp g C) (T : Fn g 2 "is_text" R_text) {f : Addr} {fd : FuncData} (F : Fun g.K "check_goal" "check_goal" sCheckGoal f fd) : FnOk g.P g.w g.K g.mg g.base CX0 3 f fd ["file", "text"] (spR g.K (R_cgoal C)) := by
  refine fn_ok F scCheckGoal (fun ds d ⟨ls, ps, od, pp, op, tn, t, _, e, _⟩ => by rw [e]; rfl) fun ds d ⟨ls, ps, od, pp, op, tn, t, h, e, ed⟩ => ?_
  subst e ed
  refine dss_one (ds_if (x := false) (DT.is (dt_not (dt_e (de_call T (da_cons (de_ls L P (de_v 0)) (da_cons (de_v 1) da_nil)) ⟨ls, .str t, rfl, ?_, rfl⟩))) ?_) (fun h => by cases h) fun _ => dss_nil rfl)
  · rw [fit]
    exact decide_eq_true (Nat.le_trans (wordOk_len h) (by decide))
  · show (!wordOk ls 6 t) = false
    rw [h]
    rfl
theorem scFileState : FnScope ["file"] ["file"] (defScope sFileState) := ⟨rfl, rfl, rfl, by decide +kernel, rfl, by decide +kernel, by decide +kernel⟩
def R_fstate (C : Addr) : List DV → DV → Prop := fun ds d => ∃ ls ps od pp op tn, ds = [fileD C ls ps od pp op tn] ∧ d = stD ps od
theorem ok_fstate (L : Fl g C) (P : Fp g C) {f : Addr} {fd : FuncData} (F : Fun g.K "file_state" "file_state" sFileState f fd) : FnOk g.P g.w g.K g.mg g.base CX0 3 f fd ["file"] (spR g.K (R_fstate C)) := by
  refine fn_ok F scFileState (fun ds d ⟨ls, ps, od, pp, op, tn, e, _⟩ => by rw [e]; rfl) fun ds d ⟨ls, ps, od, pp, op, tn, e, ed⟩ => ?_
  subst e ed
  exact dss_one (ds_ret (de_tup (da_cons (de_ps L P (de_v 0)) (da_cons (de_od L P (de_v 0)) da_nil))) rfl)
theorem scFileAt : FnScope ["file", "state", "pieces", "order"] ["file", "state"] (defScope sFileAt) := ⟨rfl, rfl, rfl, by decide +kernel, rfl, by decide +kernel, by decide +kernel⟩
def R_fat (C : Addr) : List DV → DV → Prop := fun ds d => ∃ ls ps od ps' od' pp op tn, VS ls ps' od' ∧ (1 ≤ pp ∧ pp ≤ 5) ∧ (1 ≤ op ∧ op ≤ 5) ∧ ds = [fileD C ls ps od pp op tn, stD ps' od'] ∧ d = fileD C ls ps' od' pp op tn
theorem ok_fat (L : Fl g C) (P : Fp g C) {f : Addr} {fd : FuncData} (F : Fun g.K "file_at" "file_at" sFileAt f fd) : FnOk g.P g.w g.K g.mg g.base CX0 6 f fd ["file", "state"] (spR g.K (R_fat C)) := by
  refine fn_ok F scFileAt (fun ds d ⟨ls, ps, od, ps', od', pp, op, tn, _, _, _, e, _⟩ => by rw [e]; rfl) fun ds d ⟨ls, ps, od, ps', od', pp, op, tn, v, h1, h2, e, ed⟩ => ?_
  subst e ed
  exact dss_cons (ds_asg (de_v 1) (dg_tup (dgs_cons (dg_n 2 scFileAt.nd) (dgs_cons (dg_n 3 scFileAt.nd) dgs_nil))) (dss_one (ds_ret (de_make P.make (da_cons (de_ls L P (de_v 0)) (da_cons (de_v 2) (da_cons (de_v 3) da_nil))) (dk_cons (de_pp L P (de_v 0)) (dk_cons (de_oq L P (de_v 0)) (dk_cons (de_tn L P (de_v 0)) dk_nil))) ⟨ls, ps', od', pp, op, tn, v, h1, h2, rfl, rfl⟩) rfl)))
end SP

/-! What the moves of a file are computed from: texts of all orders, a text with a gap that is filled. -/
namespace SP
open PySem L2 PD
/-! a gap filled -/
end SP

namespace PD
open PySem PySem.Spec PyProof.Rows L2
section
variable {g : Gb} {l : Lc} {ρ : Rho} {o e a b : Expr} {es : List Expr} {pos : Pos} {ds : List DV} {d : DV} {C : Addr} {gs : List (Str × DV)} {n : Str}
end
end PD
namespace SP
open PySem PySem.Spec PyProof.Rows L2 PD
variable {g : Gb} {M : Addr} {tG : Tok}
section
variable {n nb : Nat} {ls : Str} {pp op : Int} {tn : Bool}
end
end SP

/-! An __init__ that stores attributes, from states in which at least n identities have been given out. -/
namespace PD
open PySem PySem.Spec PyProof.Rows L2
section
variable {X : Cx} {n : Nat} {o value : Expr} {f : Str} {pos pos' : Pos} {ta tv : TE}
end
section
variable (g : Gb) (n : Nat) (l : Lc)
def USN (st : Stmt) : TS := fun D σ H => ∃ t, (∀ X, Of g l X → SN X n st t) ∧ t D σ H
end
section
variable {g : Gb} {n : Nat} {l : Lc} {ρ : Rho} {C : Addr} {gs gs' gs2 : List (Str × DV)} {e : Expr} {f nm : Str} {d : DV} {p1 p2 p3 : Pos} {st : Stmt} {rest : List Stmt}
theorem USN.sn {X : Cx} (o : Of g l X) (st : Stmt) : SN X n st (USN g n l st) := ⟨fun pins s σ H D ht I ⟨t, h, q⟩ => (h X o).run pins s σ H D ht I q⟩
end
end PD

/-! Moves(file), from states in which at least n identities have been given out. -/
namespace SP
open PySem PySem.Spec PyProof.Rows L2 PD
variable {g : Gb} {C M : Addr} {n : Nat}
end SP

/-! Making an instance, calling a method of one just made, the bound kept. -/
namespace PD
open PySem PySem.Spec PyProof.Rows L2
section
variable {X : Cx} {CX : CXT} {k n : Nat} {f C : Addr} {fd : FuncData} {ps : List Str} {sp : Sp} {E : XK} {x m : Str} {p pos apos : Pos} {e o : Expr} {es : List Expr} {t : TA} {ta : TE}
end
section
variable {g : Gb} {n : Nat} {l : Lc} {ρ : Rho} {e o : Expr} {es : List Expr} {ds : List DV} {d : DV} {x : Str} {p pos apos : Pos} {k : Nat} {C : Addr} {gs : List (Str × DV)}
end
end PD

/-! A comprehension over what only a bounded reading gives; defs with bounded promises. -/
namespace PD
open PySem PySem.Spec PyProof.Rows L2
section
variable {X : Cx} {n : Nat} {tg iter elt : Expr} {ifs : List Expr} {scope : Scope} {own : List (Str × Nat)} {pos : Pos} {wi : TI} {g : TG} {tt : TT} {te : TE}
theorem sn_ret {e : Expr} (h : PN X n e te) : SN X n (.Return (some e) pos) (tRet te) :=
  ⟨fun pins s σ H D ht I q => wpAny_Return_some (thn (h.run pins s σ H _ ht I q) fun v s1 ⟨x, H1, I1, r1, q1⟩ => ⟨x, σ, H1, I1, r1, q1⟩)⟩
end
section
variable {g : Gb} {n : Nat} {l : Lc} {ρ : Rho} {ds : List DV} {d : DV} {e tg iter elt : Expr} {ifs : List Expr} {scope : Scope} {own : List (Str × Nat)} {pos : Pos} {st : Stmt} {sts : List Stmt} {E : Po}
/-! statements and defs -/
def DSN (g : Gb) (n : Nat) (l : Lc) (st : Stmt) (ρ : Rho) (E : Po) : Prop := StD g.K (USN g n l st) ρ E
theorem DSN.by (t : TS) (h : ∀ X, Of g l X → SN X n st t) (v : StD g.K t ρ E) : DSN g n l st ρ E := fun S0 H0 B σ S H D a b c o => ⟨t, h, v S0 H0 B σ S H D a b c o⟩
theorem DSN.of (h : DS g l st ρ E) : DSN g n l st ρ E := .by (US g l st) (fun X o => .of (US.ps o st)) h
end
end PD

/-! Defs with bounded promises. -/
namespace PD
open PySem PySem.Spec PyProof.Rows L2
section
variable {g : Gb} {n : Nat}
end
end PD

/-! Tests and loops with a bound. -/
namespace PD
open PySem PySem.Spec PyProof.Rows L2
structure PTN (X : Cx) (n : Nat) (e : Expr) (t : TT) : Prop where
  run : ∀ (pins : List (Addr × Obj)) (s : Shared) (σ : L2.St) (H : Hp) (Q : Bool → Hp → Prop), n ≤ s.toks → Inv X pins σ H s → t σ H Q → wpAny (model X.prog X.w) X.A (isTrue e X.env (eval e X.env)) (TP X pins σ Q) X.xe s
structure PWN (X : Cx) (n : Nat) (e : Expr) (t : TT) : Prop where
  run : ∀ (whole : Sem Value) (pins : List (Addr × Obj)) (s : Shared) (σ : L2.St) (H : Hp) (Q : Bool → Hp → Prop), n ≤ s.toks → Inv X pins σ H s → t σ H Q → wpAny (model X.prog X.w) X.A (isTrue e X.env whole) (TP X pins σ Q) X.xe s
section
variable {X : Cx} {n : Nat} {e a b : Expr} {rest : List Expr} {body orelse : List Stmt} {t u : TT} {ta tb : TE} {ts tu : TS} {pos : Pos}
theorem PTN.of (h : PT X e t) : PTN X n e t := ⟨fun pins s σ H Q _ I q => h.run pins s σ H Q I q⟩
theorem PWN.pt (h : PWN X n e t) : PTN X n e t := ⟨h.run _⟩
theorem ptn_val (h : PN X n e ta) (he : ∀ whole, isTrue e X.env whole = (do let v ← whole; standAt e.pos; holding [v] (truthy v))) : PTN X n e (tB ta) := ⟨fun pins s σ H Q ht I q => isTrue_plain (thn (h.run pins s σ H _ ht I q) fun v s1 ⟨x, H1, I1, r1, d, ex, q1⟩ => by
  subst ex
  cases r1
  exact wpAny_truthy_bool ⟨H1, I1, q1⟩) (he _)⟩
theorem ptn_cmp {op : CmpOp} {r : R2} (ho : OpR X (compareOp op) r) (ha : PN X n a ta) (hb : PE X b tb) (hm : behindInMarks op b = false) : PTN X n (.Compare a [op] [b] pos) (tTest (tOp r ta tb)) := ⟨fun pins s σ H Q ht I h =>
  wpAny_isTrue_Compare1 (thn (ha.run pins s σ H _ ht I h) fun v s1 ⟨x, H1, I1, r1, q1⟩ => thn (hb.run pins s1 σ H1 _ I1 q1) fun u s2 ⟨y, H2, I2, r2, q2⟩ => thn (ho pins s2 σ H2 x y v u _ I2 r1 r2 q2) fun c s3 ⟨z, H3, I3, r3, k, ez, q3⟩ => by
    subst ez
    cases r3
    exact wpAny_truthy_bool ⟨H3, I3, q3⟩) hm⟩
theorem ptn_not (h : PTN X n a t) : PTN X n (.UnaryOp .Not a pos) (tNot t) := ⟨fun pins s σ H Q ht I q => isTrue_not (h.run pins s σ H (fun c H1 => Q (!c) H1) ht I q)⟩
theorem pwn_or1 (h : PTN X n a t) : PWN X n (.BoolOp .Or [a] pos) t := ⟨fun wh pins s σ H Q ht I q => isTrue_or (thn (h.run pins s σ H Q ht I q) fun c s1 z => by
  cases c with
  | false => exact isTrue_or_nil z
  | true => exact z)⟩
theorem pwn_or (h : PTN X n a t) (k : PWN X n (.BoolOp .Or (b :: rest) pos) u) : PWN X n (.BoolOp .Or (a :: b :: rest) pos) (tOr t u) := ⟨fun wh pins s σ H Q ht I q => isTrue_or (thnN ht (h.run pins s σ H _ ht I q) fun c s1 ht1 ⟨H1, I1, q1⟩ => by
  cases c with
  | true => exact ⟨H1, I1, q1⟩
  | false => exact k.run wh pins s1 σ H1 Q ht1 I1 q1)⟩
theorem sn_if (h : PTN X n e t) (h1 : SsN X n body ts) (h2 : SsN X n orelse tu) : SN X n (.If e body orelse pos) (tIfS t ts tu) := ⟨fun pins s σ H D ht I q => wpAny_If (thnN ht (h.run pins s σ H _ ht I q) fun c s1 ht1 ⟨H1, I1, q1⟩ => by
  cases c with
  | true => exact h1.run pins s1 σ H1 D ht1 I1 q1
  | false => exact h2.run pins s1 σ H1 D ht1 I1 q1)⟩
end
section
variable (g : Gb) (n : Nat) (l : Lc)
end
section
variable {g : Gb} {n : Nat} {l : Lc} {ρ : Rho} {e a b iter tg : Expr} {rest : List Expr} {body orelse : List Stmt} {da db d : DV} {ds : List DV} {x y : Bool} {pos : Pos} {E : Po}
end
end PD

/-! Mutable things of one's own: a part of the heap that stands apart from the still part and from the slots' own things. -/
namespace PD
open PySem PySem.Spec PyProof.Rows L2

/-! ### locked, and open again -/
/-- where H and H' differ stand things that no other object's description leans on -/
def NB : HO → Prop
  | .ext _ => True | .frz _ _ => True | _ => False
theorem inv_re {X : Cx} {pins : List (Addr × Obj)} {σ : L2.St} {H H' : Hp} {s : Shared} (I : Inv X pins σ H s)
    (hd : ∀ q, H' q = H q ∨ ∃ u o', H q = some u ∧ H' q = some o' ∧ NB u ∧ (∀ ob w, X.H_0 q ≠ some (.frz ob w)) ∧ ObjOk X.prog X.w H' s.heap q o') : Inv X pins σ H' s := by
  have nn : ∀ q, H q = none → H' q = none := fun q n => by
    rcases hd q with e | ⟨u, o', e, _⟩
    · rw [e]; exact n
    · rw [e] at n; cases n
  have same : ∀ q u, H q = some u → ¬ NB u → H' q = some u := fun q u e n => by
    rcases hd q with z | ⟨u', o', z, _, b, _⟩
    · rw [z]; exact e
    · rw [e] at z; cases z; exact absurd b n
  refine ⟨I.ok, I.os, I.bare, ⟨I.base.keep, I.base.slot, fun b o a n x => nn b (I.base.free b o a n x), I.base.there, fun b xs e => same b _ (I.base.tups b xs e) (fun z => z), fun b o u e => ?_, fun b ps e => ?_⟩, I.loc, I.cell, nn _ I.free, fun x c e => nn c (I.freeC x c e), fun p hp => ?_, fun a o e => ?_, I.len⟩
  · rcases hd b with z | ⟨_, _, _, _, _, n, _⟩
    · rw [z]; exact I.base.frzs b o u e
    · exact absurd e (n _ _)
  · obtain ⟨more, q⟩ := I.base.tbls b ps e
    exact ⟨more, same b _ q (fun z => z)⟩
  · obtain ⟨a, b, c⟩ := I.pin p hp
    exact ⟨a, nn _ b, c⟩
  · rcases hd a with z | ⟨u, o', _, z, _, _, k⟩
    · rw [z] at e
      exact (I.hok a o e).stay (fun b u _ q => q) (fun b q => same b _ q (fun z => z)) fun b xs q => same b _ q (fun z => z)
    · rw [e] at z
      cases z
      exact k
abbrev LL := List (Addr × List DictEntry)
def lockA (H : Hp) (L : LL) (ods : Addr → Obj) : Hp := fun q => match L.lookup q with | some es => some (.frz (ods q) (DxO q es)) | none => H q
def openA (H : Hp) (L : LL) : Hp := fun q => match L.lookup q with | some es => some (DxO q es) | none => H q
def Lk (H : Hp) (L : LL) : Prop := ∀ q es, L.lookup q = some es → H q = some (DxO q es)
def Lkd (H : Hp) (L : LL) (ods : Addr → Obj) : Prop := ∀ q es, L.lookup q = some es → H q = some (.frz (ods q) (DxO q es))
theorem lockA_in {H : Hp} {L : LL} {ods : Addr → Obj} {q : Addr} {es : List DictEntry} (h : L.lookup q = some es) : lockA H L ods q = some (.frz (ods q) (DxO q es)) := by unfold lockA; rw [h]
theorem lockA_out {H : Hp} {L : LL} {ods : Addr → Obj} {q : Addr} (h : L.lookup q = none) : lockA H L ods q = H q := by unfold lockA; rw [h]
theorem openA_in {H : Hp} {L : LL} {q : Addr} {es : List DictEntry} (h : L.lookup q = some es) : openA H L q = some (DxO q es) := by unfold openA; rw [h]
theorem openA_out {H : Hp} {L : LL} {q : Addr} (h : L.lookup q = none) : openA H L q = H q := by unfold openA; rw [h]
theorem dx_move {P : Program} {w : World} {H H' : Hp} {h : Heap} {q : Addr} {es : List DictEntry} (x : ObjOk P w H h q (DxO q es)) : ObjOk P w H' h q (DxO q es) := x
theorem inv_lock {X : Cx} {pins : List (Addr × Obj)} {σ : L2.St} {H : Hp} {s : Shared} {L : LL} (I : Inv X pins σ H s) (hL : Lk H L) : ∃ ods, Inv X pins σ (lockA H L ods) s := by
  refine ⟨fun q => (s.heap.get? q).getD { cls := .none, data := .fields #[] }, inv_re I fun q => ?_⟩
  cases e : L.lookup q with
  | none => exact .inl (lockA_out e)
  | some es =>
    have hq := hL q es e
    have k := I.hok q _ hq
    have ex : ∃ o, s.heap.get? q = some o := k.2.1
    obtain ⟨o, ho⟩ := ex
    refine .inr ⟨_, _, hq, lockA_in e, True.intro, fun ob w z => ?_, ?_⟩
    · have := I.base.frzs q ob w z
      rw [hq] at this
      cases this
    · refine ⟨by rw [ho]; rfl, dx_move k⟩
theorem inv_open {X : Cx} {pins : List (Addr × Obj)} {σ : L2.St} {H : Hp} {s : Shared} {L : LL} {ods : Addr → Obj} (I : Inv X pins σ H s) (hL : Lkd H L ods) (h0 : ∀ q es, L.lookup q = some es → ∀ ob w, X.H_0 q ≠ some (.frz ob w)) : Inv X pins σ (openA H L) s :=
  inv_re I fun q => by
    cases e : L.lookup q with
    | none => exact .inl (openA_out e)
    | some es => exact .inr ⟨_, _, hL q es e, openA_in e, True.intro, h0 q es e, dx_move (I.hok q _ (hL q es e)).2⟩
theorem inv_thaw0 {X : Cx} {pins : List (Addr × Obj)} {σ : L2.St} {H : Hp} {s : Shared} {L : LL} (I : Inv X pins σ H s) (hL : Lk H L) : ∀ q es, L.lookup q = some es → ∀ ob w, X.H_0 q ≠ some (.frz ob w) := fun q es e ob w z => by
  have := I.base.frzs q ob w z
  rw [hL q es e] at this
  cases this
/-- dicts of one's own are locked while a piece is read, and open again behind it -/
def lendE (t : TE) : TE := fun σ H Q => ∃ L, Lk H L ∧ ∀ ods, t σ (lockA H L ods) fun v H' => Lkd H' L ods ∧ Q v (openA H' L)
def lendT (t : TT) : TT := fun σ H Q => ∃ L, Lk H L ∧ ∀ ods, t σ (lockA H L ods) fun v H' => Lkd H' L ods ∧ Q v (openA H' L)
theorem pe_lend {X : Cx} {e : Expr} {t : TE} (h : PE X e t) : PE X e (lendE t) := ⟨fun pins s σ H Q I ⟨L, hL, q⟩ => by
  obtain ⟨ods, I1⟩ := inv_lock I hL
  exact thn (h.run pins s σ _ _ I1 (q ods)) fun u s1 ⟨v, H1, I2, r, a, b⟩ => ⟨v, _, inv_open I2 a (inv_thaw0 I hL), r, b⟩⟩
theorem pt_lend {X : Cx} {e : Expr} {t : TT} (h : PT X e t) : PT X e (lendT t) := ⟨fun pins s σ H Q I ⟨L, hL, q⟩ => by
  obtain ⟨ods, I1⟩ := inv_lock I hL
  exact thn (h.run pins s σ _ _ I1 (q ods)) fun u s1 ⟨H1, I2, a, b⟩ => ⟨_, inv_open I2 a (inv_thaw0 I hL), b⟩⟩
/-! ### mutable things -/
/-- where it stands, what is true of it -/
structure Mo where
  dom : Addr → Prop
  P : Hp → Hp → Prop
  stb : ∀ S H S' H', Ex S S' → (∀ q, dom q → H' q = H q) → P S H → P S' H'
open Classical in
noncomputable def mix (m : Mo) (H0 H : Hp) : Hp := fun q => if m.dom q then H q else H0 q
theorem mix_in {m : Mo} {H0 H : Hp} {q : Addr} (h : m.dom q) : mix m H0 H q = H q := by unfold mix; rw [if_pos h]
theorem mix_out {m : Mo} {H0 H : Hp} {q : Addr} (h : ¬ m.dom q) : mix m H0 H q = H0 q := by unfold mix; rw [if_neg h]
structure Md (m : Mo) (S0 H0 S H : Hp) : Prop where
  z : ∀ q, m.dom q → H0 q = none ∧ S0 q = none ∧ S q = none ∧ H q ≠ none
  p : m.P S H
/-- a state with a mutable thing -/
structure Sm (K : PySem.W.Frag) (S0 H0 B : Hp) (σ : L2.St) (S H : Hp) (ρ : Rho) (m : Mo) : Prop where
  g : Go S0 (mix m H0 H) S H
  b : Ex B S
  n : En K (mix m H0 H) S H σ ρ
  d : Md m S0 H0 S H
section
variable {K : PySem.W.Frag} {S0 H0 B S H S' H' : Hp} {σ : L2.St} {ρ ρ' : Rho} {m m' : Mo}
theorem Md.same (d : Md m S0 H0 S H) (e : Ex H H') : ∀ q, m.dom q → H' q = H q := fun q h => by
  obtain ⟨_, _, _, n⟩ := d.z q h
  cases z : H q with
  | none => exact absurd z n
  | some o => exact e q o z
theorem Md.mix (d : Md m S0 H0 S H) (e : Ex H H') : mix m H0 H' = mix m H0 H := funext fun q => by
  by_cases h : m.dom q
  · rw [mix_in h, mix_in h, d.same e q h]
  · rw [mix_out h, mix_out h]
theorem Md.go (d : Md m S0 H0 S H) (g : Go S H S' H') : Md m S0 H0 S' H' := ⟨fun q h => by
  obtain ⟨a, b, c, n⟩ := d.z q h
  refine ⟨a, b, ?_, by rw [d.same g.h q h]; exact n⟩
  cases z : S' q with
  | none => rfl
  | some o => exact absurd (g.new q o z c) n, m.stb _ _ _ _ g.s (d.same g.h) d.p⟩
theorem Sm.go (s : Sm K S0 H0 B σ S H ρ m) (g : Go S H S' H') : Sm K S0 H0 B σ S' H' ρ m := by
  have e := s.d.mix g.h
  exact ⟨by rw [e]; exact s.g.tr g, s.b.tr g.s, by rw [e]; exact s.n.go g, s.d.go g⟩
/-- a slot is set -/
theorem Sm.set {i : Nat} {v : V} {d : DV} (s : Sm K S0 H0 B σ S H ρ m) (r : Rp K S v d) : Sm K S0 H0 B (σ.set i (some v)) S H (ρ.set i (.val d)) m := ⟨s.g, s.b, s.n.set r, s.d⟩
end
/-- what is wanted behind a statement -/
structure Pm where
  nx : Rho → Mo → Prop
  rt : DV → Mo → Prop := fun _ _ => False
  bk : Rho → Mo → Prop := fun _ _ => False
  ct : Rho → Mo → Prop := fun _ _ => False
/-- the end of a def with a mutable thing -/
structure Rm (K : PySem.W.Frag) (S0 H0 : Hp) (v : V) (S H : Hp) (d : DV) (m : Mo) : Prop where
  go : Go S0 (mix m H0 H) S H
  md : Md m S0 H0 S H
  rp : Rp K S v d
structure Okm (K : PySem.W.Frag) (S0 H0 B : Hp) (D : Ends) (E : Pm) : Prop where
  nx : ∀ ρ m σ S H, E.nx ρ m → Sm K S0 H0 B σ S H ρ m → D.nx σ H
  rt : ∀ d m v S H, E.rt d m → Rm K S0 H0 v S H d m → D.rt v H
  bk : ∀ ρ m σ S H, E.bk ρ m → Sm K S0 H0 B σ S H ρ m → D.bk σ H
  ct : ∀ ρ m σ S H, E.ct ρ m → Sm K S0 H0 B σ S H ρ m → D.ct σ H
def StM (K : PySem.W.Frag) (ts : TS) (ρ : Rho) (m : Mo) (E : Pm) : Prop := ∀ S0 H0 B σ S H D, Sm K S0 H0 B σ S H ρ m → Okm K S0 H0 B D E → ts D σ H
/-- an expression that may change it; a test; a new list -/
def EvU (K : PySem.W.Frag) (te : TE) (ρ : Rho) (m : Mo) (d : DV) (m' : Mo) : Prop := ∀ S0 H0 B σ S H, Sm K S0 H0 B σ S H ρ m → ∀ Q : VK, (∀ v S' H', Sm K S0 H0 B σ S' H' ρ m' → Ex S S' → Rp K S' v d → Q v H') → te σ H Q
def EvBU (K : PySem.W.Frag) (tt : TT) (ρ : Rho) (m : Mo) (b : Bool) (m' : Mo) : Prop := ∀ S0 H0 B σ S H, Sm K S0 H0 B σ S H ρ m → ∀ Q : Bool → Hp → Prop, (∀ S' H', Sm K S0 H0 B σ S' H' ρ m' → Ex S S' → Q b H') → tt σ H Q
section
variable {K : PySem.W.Frag} {ρ ρ' : Rho} {m m' : Mo} {te : TE} {tt : TT} {ts tu tw : TS} {d : DV} {b : Bool} {E : Pm} {ds : List DV}
theorem evu_of (h : EvD K te ρ d) : EvU K te ρ m d m := fun S0 H0 B σ S H s Q q => h _ σ S H s.g.sub s.n Q fun v S' H' g r => q v S' H' (s.go g) g.s r
theorem ebu_of (h : EvB K tt ρ b) : EvBU K tt ρ m b m := fun S0 H0 B σ S H s Q q => h _ σ S H s.g.sub s.n Q fun S' H' g => q S' H' (s.go g) g.s
/-- what does not touch it -/
theorem stm_pure {E' : Po} (h : StD K ts ρ E') (hn : ∀ ρ, E'.nx ρ → E.nx ρ m) (hr : ∀ d, ¬ E'.rt d) (hb : ∀ ρ, E'.bk ρ → E.bk ρ m) (hc : ∀ ρ, E'.ct ρ → E.ct ρ m) : StM K ts ρ m E := fun S0 H0 B σ S H D s o => by
  have key : ∀ {S' H' : Hp}, Go S0 (mix m H0 H) S' H' → Ex S S' → mix m H0 H' = mix m H0 H ∧ Md m S0 H0 S' H' := fun {S' H'} g e => by
    have same : ∀ q, m.dom q → H' q = H q := fun q hq => by
      cases z : H q with
      | none => exact absurd z (s.d.z q hq).2.2.2
      | some u => exact g.h q u (by rw [mix_in hq]; exact z)
    refine ⟨funext fun q => ?_, fun q hq => ?_, m.stb _ _ _ _ e same s.d.p⟩
    · by_cases hq : m.dom q
      · rw [mix_in hq, mix_in hq, same q hq]
      · rw [mix_out hq, mix_out hq]
    · obtain ⟨a, c, _, n⟩ := s.d.z q hq
      refine ⟨a, c, ?_, by rw [same q hq]; exact n⟩
      cases z : S' q with
      | none => rfl
      | some u => exact absurd ((mix_in (H0 := H0) (H := H) hq).symm.trans (g.new q u z c)) n
  refine h S0 (mix m H0 H) S σ S H D s.g (Ex.rf _) s.n ⟨fun ρ' σ' S' H' q g e n => ?_, fun d' v S' H' q g r => ?_, fun ρ' σ' S' H' q g e n => ?_, fun ρ' σ' S' H' q g e n => ?_⟩
  · obtain ⟨k1, k2⟩ := key g e
    exact o.nx ρ' m σ' S' H' (hn _ q) ⟨by rw [k1]; exact g, s.b.tr e, by rw [k1]; exact n, k2⟩
  · exact absurd q (hr _)
  · obtain ⟨k1, k2⟩ := key g e
    exact o.bk ρ' m σ' S' H' (hb _ q) ⟨by rw [k1]; exact g, s.b.tr e, by rw [k1]; exact n, k2⟩
  · obtain ⟨k1, k2⟩ := key g e
    exact o.ct ρ' m σ' S' H' (hc _ q) ⟨by rw [k1]; exact g, s.b.tr e, by rw [k1]; exact n, k2⟩
end
end PD

/-! Mutable things: statements; what is read while a mutable thing is lent. -/
namespace PD
open PySem PySem.Spec PyProof.Rows L2
section
variable {K : PySem.W.Frag} {ρ ρ' : Rho} {m m' : Mo} {te : TE} {tt : TT} {ts tu tw : TS} {d : DV} {b : Bool} {E : Pm} {ds : List DV}
theorem stm_next (h : E.nx ρ m) : StM K tNext ρ m E := fun S0 H0 B σ S H D s o => o.nx ρ m σ S H h s
theorem stm_seq (h : StM K ts ρ m { E with nx := fun ρ' m' => StM K tu ρ' m' E }) : StM K (tSeq ts tu) ρ m E := fun S0 H0 B σ S H D s o =>
  h S0 H0 B σ S H { D with nx := tu D } s ⟨fun ρ' m' σ' S' H' q s' => q S0 H0 B σ' S' H' D s' o, o.rt, o.bk, o.ct⟩
theorem stm_asg {i : Nat} (h : EvU K te ρ m d m') (q : E.nx (ρ.set i (.val d)) m') : StM K (tAsg te (gName i)) ρ m E := fun S0 H0 B σ S H D s o =>
  h S0 H0 B σ S H s _ fun v S1 H1 s1 _ r1 => o.nx _ _ _ S1 H1 q (s1.set r1)
theorem stm_drop (h : EvU K te ρ m d m') (q : E.nx ρ m') : StM K (tDrop te) ρ m E := fun S0 H0 B σ S H D s o =>
  h S0 H0 B σ S H s _ fun v S1 H1 s1 _ r1 => o.nx _ _ _ S1 H1 q s1
theorem stm_ret (h : EvU K te ρ m d m') (q : E.rt d m') : StM K (tRet te) ρ m E := fun S0 H0 B σ S H D s o =>
  h S0 H0 B σ S H s _ fun v S1 H1 s1 _ r1 => o.rt d m' v S1 H1 q ⟨s1.g, s1.d, r1⟩
theorem stm_if (h : EvBU K tt ρ m b m') (h1 : b = true → StM K tu ρ m' E) (h2 : b = false → StM K tw ρ m' E) : StM K (tIfS tt tu tw) ρ m E := fun S0 H0 B σ S H D s o =>
  h S0 H0 B σ S H s _ fun S1 H1 s1 _ => by
    cases b with
    | true =>
      rw [if_pos rfl]
      exact h1 rfl S0 H0 B σ S1 H1 D s1 o
    | false =>
      rw [if_neg (by decide)]
      exact h2 rfl S0 H0 B σ S1 H1 D s1 o
theorem stm_for {wi : TI} {g : TG} {is : List Nat} (hi : IvD K wi ρ ds) (I : Nat → Rho → Mo → Prop) (h0 : I 0 ρ m)
    (hs : ∀ i d ρ' m', ds[i]? = some d → I i ρ' m' → ∃ ρ'', TgD K g is d ρ' ρ'' ∧ StM K ts ρ'' m' { nx := I (i + 1), ct := I (i + 1), bk := E.nx, rt := E.rt }) (hd : ∀ ρ' m', I ds.length ρ' m' → E.nx ρ' m') : StM K (tFor wi g ts) ρ m E := fun S0 H0 B σ S H D s o =>
  hi _ σ S H s.g.sub s.n _ fun J S1 H1 g1 w1 => by
    refine ⟨fun i k σ2 H2 => k = ds.length - i ∧ i ≤ ds.length ∧ ∃ ρ' m' S2, I i ρ' m' ∧ Sm K S0 H0 S1 σ2 S2 H2 ρ' m', ⟨_, rfl, Nat.zero_le _, ρ, m, S1, h0, (s.go g1).g, Ex.rf _, (s.go g1).n, (s.go g1).d⟩, ?_⟩
    rintro i k σ2 H2 ⟨rfl, hile, ρ', m', S2, hI, s2⟩
    have wd : ∀ {ρ5 m5 σ5 S5 H5}, Sm K S0 H0 S1 σ5 S5 H5 ρ5 m5 → Sm K S0 H0 B σ5 S5 H5 ρ5 m5 := fun z => ⟨z.g, (s.b.tr g1.s).tr z.b, z.n, z.d⟩
    by_cases hlt : i < ds.length
    · have hdi : ds[i]? = some ds[i] := List.getElem?_eq_getElem hlt
      refine .inr ⟨w1.go i H2 (s2.b.tr s2.g.sub) hlt, fun σ' H' => ∃ ρ' m' S2, I (i + 1) ρ' m' ∧ Sm K S0 H0 S1 σ' S2 H' ρ' m', fun σ' H' ⟨ρ', m', S2, a, b⟩ => ⟨ds.length - (i + 1), by omega, rfl, hlt, ρ', m', S2, a, b⟩, fun x H' y => ?_⟩
      obtain ⟨S3, g3, rx⟩ := w1.yld i H2 x H' y _ hdi S2 s2.b s2.g.sub
      obtain ⟨ρ'', tg, bd⟩ := hs i _ ρ' m' hdi hI
      have s3 := s2.go g3
      refine tg _ σ2 S3 H' x g3.sub s3.n rx _ fun σ3 n3 _ _ => ?_
      exact bd S0 H0 S1 σ3 S3 H' _ ⟨s3.g, s3.b, n3, s3.d⟩ ⟨fun ρ5 m5 σ5 S5 H5 q s5 => ⟨ρ5, m5, S5, q, s5⟩, o.rt, fun ρ5 m5 σ5 S5 H5 q s5 => o.nx ρ5 m5 σ5 S5 H5 q (wd s5), fun ρ5 m5 σ5 S5 H5 q s5 => ⟨ρ5, m5, S5, q, s5⟩⟩
    · have e : i = ds.length := by omega
      subst e
      exact .inl ⟨w1.stop H2 (s2.b.tr s2.g.sub), o.nx ρ' m' σ2 S2 H2 (hd ρ' m' hI) (wd s2)⟩
end

/-! ### lent -/
structure Vw (K : PySem.W.Frag) (m : Mo) (p : Addr) (d : DV) : Prop where
  v : ∀ S H, (∀ q, m.dom q → S q = none) → m.P S H → ∃ L : LL, (∀ q es, L.lookup q = some es → m.dom q) ∧ Lk H L ∧ ∀ ods, Rp K (mix m S (lockA H L ods)) (.ref p) d
  nt : ∀ S H q xs, m.P S H → m.dom q → ¬ Rd H q (.tup xs)
section
variable {K : PySem.W.Frag} {S0 H0 B S H S' H' S2 H2 S3 H3 : Hp} {σ : L2.St} {ρ ρ' : Rho} {m m' : Mo} {p : Addr} {d r : DV} {i : Nat} {L : LL} {ods : Addr → Obj} {te : TE} {tt : TT} {b : Bool} {ds : List DV}
theorem En.mv {H9 : Hp} (n : En K H9 S H σ ρ) (e : Ex S S2) (ow : ∀ q o, H9 q = none → S q = none → H q = some o → S2 q = none ∧ H2 q = some o) : En K H9 S2 H2 σ ρ where
  len := n.len
  at_ := fun i v x a c => by
    have k := n.at_ i v x a c
    cases x with
    | un => trivial
    | exo _ _ _ => obtain ⟨a1, fs, b1, c1⟩ := k; exact ⟨a1, fs, e _ _ b1, c1.up e⟩
    | val d' => obtain ⟨u, k1, k2⟩ := k; exact ⟨u, k1, k2.up e⟩
    | ownD d' =>
      obtain ⟨p', o', k1, k2, k3, k4, k5⟩ := k
      obtain ⟨y1, y2⟩ := ow p' o' k2 k3 k4
      exact ⟨p', o', k1, k2, y1, y2, k5.up e⟩
  sep := n.sep
theorem En.put {H9 : Hp} {v : V} (n : En K H9 S H σ ρ) (hi : σ[i]? = some (some v)) (r : Rp K S v d) : En K H9 S H σ (ρ.set i (.val d)) := by
  have e : σ.set i (some v) = σ := by
    refine List.ext_getElem? fun j => ?_
    by_cases h : i = j
    · subst h
      rw [List.getElem?_set_self (List.getElem?_eq_some_iff.mp hi).1, hi]
    · rw [List.getElem?_set_ne h]
  have := n.set (i := i) r
  rw [e] at this
  exact this
theorem lend_ex (s : Md m S0 H0 S H) (e : Ex S H) (hd : ∀ q es, L.lookup q = some es → m.dom q) : Ex (mix m S (lockA H L ods)) (lockA H L ods) ∧ Ex S (mix m S (lockA H L ods)) ∧ ∀ q, ¬ m.dom q → lockA H L ods q = H q := by
  have out : ∀ q, ¬ m.dom q → lockA H L ods q = H q := fun q nq => by
    cases z : L.lookup q with
    | none => exact lockA_out z
    | some es => exact absurd (hd q es z) nq
  refine ⟨fun q o h => ?_, fun q o h => ?_, out⟩
  · by_cases hq : m.dom q
    · rw [mix_in hq] at h
      exact h
    · rw [mix_out hq] at h
      rw [out q hq]
      exact e q o h
  · have hq : ¬ m.dom q := fun z => by
      rw [(s.z q z).2.2.1] at h
      cases h
    rw [mix_out hq]
    exact h
theorem lend_en (s : Sm K S0 H0 B σ S H ρ m) (hd : ∀ q es, L.lookup q = some es → m.dom q) (hi : ρ[i]? = some (.val (.adr p))) (rp : Rp K (mix m S (lockA H L ods)) (.ref p) d) : En K (mix m H0 H) (mix m S (lockA H L ods)) (lockA H L ods) σ (ρ.set i (.val d)) := by
  obtain ⟨e1, e2, out⟩ := lend_ex (ods := ods) s.d s.g.sub hd
  have n2 : En K (mix m H0 H) (mix m S (lockA H L ods)) (lockA H L ods) σ ρ := s.n.mv e2 fun q o a c h => by
    have nq : ¬ m.dom q := fun z => by
      rw [mix_in z, h] at a
      cases a
    rw [mix_out nq, out q nq]
    exact ⟨c, h⟩
  obtain ⟨v, hv, rv⟩ := n2.val hi
  cases rv
  exact n2.put hv rp
open Classical in
noncomputable def cutS (m : Mo) (S : Hp) : Hp := fun q => if m.dom q then none else S q
theorem cutS_in {q : Addr} (h : m.dom q) : PD.cutS m S q = none := by unfold PD.cutS; rw [if_pos h]
theorem cutS_out {q : Addr} (h : ¬ m.dom q) : PD.cutS m S q = S q := by unfold PD.cutS; rw [if_neg h]
theorem lend_back (s : Md m S0 H0 S H) (e : Ex S H) (hd : ∀ q es, L.lookup q = some es → m.dom q) (hL : Lk H L) (g : Go (mix m S (lockA H L ods)) (lockA H L ods) S3 H3) : Lkd H3 L ods ∧ Go S H (PD.cutS m S3) (openA H3 L) := by
  obtain ⟨e1, e2, out⟩ := lend_ex (ods := ods) s e hd
  have lk : Lkd H3 L ods := fun q es h => g.h q _ (lockA_in h)
  refine ⟨lk, ⟨fun q o h => ?_, fun q o h => ?_, fun q o h => ?_, fun q o h n => ?_⟩⟩
  · have nq : ¬ m.dom q := fun z => by
      rw [(s.z q z).2.2.1] at h
      cases h
    rw [cutS_out nq]
    exact g.s q o (e2 q o h)
  · cases z : L.lookup q with
    | some es =>
      rw [hL q es z] at h
      rw [openA_in z]
      exact h
    | none =>
      rw [openA_out z]
      exact g.h q o (by rw [lockA_out z]; exact h)
  · by_cases nq : m.dom q
    · rw [cutS_in nq] at h
      cases h
    · rw [cutS_out nq] at h
      cases z : L.lookup q with
      | some es => exact absurd (hd q es z) nq
      | none =>
        rw [openA_out z]
        exact g.sub q o h
  · by_cases nq : m.dom q
    · rw [cutS_in nq] at h
      cases h
    · rw [cutS_out nq] at h
      have k := g.new q o h (by rw [mix_out nq]; exact n)
      rw [out q nq] at k
      exact k
theorem lend_tup (s : Md m S0 H0 S H) (nt : ∀ q xs, m.dom q → ¬ Rd H q (.tup xs)) (g : Ex (mix m S (lockA H L ods)) S3) : ∀ q xs, Rd S3 q (.tup xs) → Rd (PD.cutS m S3) q (.tup xs) := fun q xs h => by
  have nq : ¬ m.dom q := fun hq => by
    have key : ∀ o, lockA H L ods q = some o → S3 q = some o := fun o ho => g q o (by rw [mix_in hq]; exact ho)
    cases z : L.lookup q with
    | some es =>
      have k := key _ (lockA_in z)
      rcases h with h | ⟨ob, h⟩
      · rw [h] at k; cases k
      · rw [h] at k; cases k
    | none =>
      cases y : H q with
      | none => exact (s.z q hq).2.2.2 y
      | some o =>
        have k := key o (by rw [lockA_out z]; exact y)
        refine nt q xs hq ?_
        rcases h with h | ⟨ob, h⟩
        · rw [h] at k; cases k; exact .inl y
        · rw [h] at k; cases k; exact .inr ⟨ob, y⟩
  unfold Rd
  rw [cutS_out nq]
  exact h
theorem ebu_lend (w : Vw K m p d) (hi : ρ[i]? = some (.val (.adr p))) (h : EvB K tt (ρ.set i (.val d)) b) : EvBU K (lendT tt) ρ m b m := fun S0 H0 B σ S H s Q q => by
  obtain ⟨L, hd, hL, rp⟩ := w.v S H (fun q y => (s.d.z q y).2.2.1) s.d.p
  refine ⟨L, hL, fun ods => h _ σ _ _ (lend_ex s.d s.g.sub hd).1 (lend_en s hd hi (rp ods)) _ fun S3 H3 g3 => ?_⟩
  obtain ⟨a, g⟩ := lend_back s.d s.g.sub hd hL g3
  exact ⟨a, q _ _ (s.go g) g.s⟩
end
end PD

/-! Dicts of one's own: truth, d[k] = v, setdefault, del, clear. -/
namespace PySem
open Sem (wp)
section
variable {prog : Program} {w : World} {A : Around} {E : Value → Shared → Prop} {s : Shared}
end
end PySem
namespace PD
open PySem PySem.Spec PyProof.Rows L2 MX
section
variable {X : Cx} {pins : List (Addr × Obj)} {σ : L2.St} {S H : Hp} {s : Shared} {p : Addr} {ks vs : List DV} {A : Around} {E : Value → Shared → Prop} {d : DV} {v : V} {u : Value}
end
section
variable {X : Cx} {o e f value : Expr} {pos pos' tpos apos cpos : Pos} {td ty tx : TE}
end
end PD

/-! Mutable things: the rules by syntax; defs that change them. -/
namespace PD
open PySem PySem.Spec PyProof.Rows L2
/-- an expression that may change it in several ways -/
def EvR (K : PySem.W.Frag) (te : TE) (ρ : Rho) (m : Mo) (R : DV → Mo → Prop) : Prop := ∀ S0 H0 B σ S H, Sm K S0 H0 B σ S H ρ m → ∀ Q : VK, (∀ d m' v S' H', R d m' → Sm K S0 H0 B σ S' H' ρ m' → Ex S S' → Rp K S' v d → Q v H') → te σ H Q
section
variable {K : PySem.W.Frag} {ρ ρ' : Rho} {m m' : Mo} {te : TE} {d : DV} {E : Pm} {R : DV → Mo → Prop}
theorem EvU.r (h : EvU K te ρ m d m') : EvR K te ρ m (fun d' m2 => d' = d ∧ m2 = m') := fun S0 H0 B σ S H s Q q => h S0 H0 B σ S H s Q fun v S' H' s' e r => q d m' v S' H' ⟨rfl, rfl⟩ s' e r
theorem stm_asgR {i : Nat} (h : EvR K te ρ m R) (q : ∀ d m', R d m' → E.nx (ρ.set i (.val d)) m') : StM K (tAsg te (gName i)) ρ m E := fun S0 H0 B σ S H D s o =>
  h S0 H0 B σ S H s _ fun d m' v S1 H1 hR s1 _ r1 => o.nx _ _ _ S1 H1 (q d m' hR) (s1.set r1)
end
section
variable (g : Gb) (l : Lc)
def DER (e : Expr) (ρ : Rho) (m : Mo) (R : DV → Mo → Prop) : Prop := EvR g.K (UE g l e) ρ m R
def DEM (e : Expr) (ρ : Rho) (m : Mo) (d : DV) (m' : Mo) : Prop := EvU g.K (UE g l e) ρ m d m'
def DTM (e : Expr) (ρ : Rho) (m : Mo) (b : Bool) (m' : Mo) : Prop := EvBU g.K (UT g l e) ρ m b m'
def DSM (st : Stmt) (ρ : Rho) (m : Mo) (E : Pm) : Prop := StM g.K (US g l st) ρ m E
def DSsM (sts : List Stmt) (ρ : Rho) (m : Mo) (E : Pm) : Prop := StM g.K (USs g l sts) ρ m E
end
section
variable {g : Gb} {l : Lc} {ρ ρ' : Rho} {m m' : Mo} {a c e tg iter : Expr} {es : List Expr} {d r : DV} {ds : List DV} {b : Bool} {pos py : Pos} {E : Pm} {st : Stmt} {sts body orelse : List Stmt} {n : Str} {p : Addr} {R : DV → Mo → Prop}
theorem DER.by (t : TE) (h : ∀ X, Of g l X → PE X e t) (v : EvR g.K t ρ m R) : DER g l e ρ m R := fun S0 H0 B σ S H s Q q => ⟨t, h, v S0 H0 B σ S H s Q q⟩
theorem DEM.by (t : TE) (h : ∀ X, Of g l X → PE X e t) (v : EvU g.K t ρ m d m') : DEM g l e ρ m d m' := fun S0 H0 B σ S H s Q q => ⟨t, h, v S0 H0 B σ S H s Q q⟩
theorem DTM.by (t : TT) (h : ∀ X, Of g l X → PT X e t) (v : EvBU g.K t ρ m b m') : DTM g l e ρ m b m' := fun S0 H0 B σ S H s Q q => ⟨t, h, v S0 H0 B σ S H s Q q⟩
theorem DSM.by (t : TS) (h : ∀ X, Of g l X → PS X st t) (v : StM g.K t ρ m E) : DSM g l st ρ m E := fun S0 H0 B σ S H D s o => ⟨t, h, v S0 H0 B σ S H D s o⟩
theorem DSsM.by (t : TS) (h : ∀ X, Of g l X → PSs X sts t) (v : StM g.K t ρ m E) : DSsM g l sts ρ m E := fun S0 H0 B σ S H D s o => ⟨t, h, v S0 H0 B σ S H D s o⟩
theorem DEM.is {d' : DV} (h : DEM g l e ρ m d m') (q : d = d') : DEM g l e ρ m d' m' := by rw [← q]; exact h
theorem DTM.is {b' : Bool} (h : DTM g l e ρ m b m') (q : b = b') : DTM g l e ρ m b' m' := by rw [← q]; exact h
theorem dem_of (h : DE g l e ρ d) : DEM g l e ρ m d m := evu_of h
theorem dtm_of (h : DT g l e ρ b) : DTM g l e ρ m b m := ebu_of h
theorem dtm_lend {i : Nat} (w : Vw g.K m p d) (hi : ρ[i]? = some (.val (.adr p))) (h : DT g l e (ρ.set i (.val d)) b) : DTM g l e ρ m b m := DTM.by _ (fun X o => pt_lend (UT.pt o e)) (ebu_lend w hi h)
theorem dssm_nil (h : E.nx ρ m) : DSsM g l [] ρ m E := DSsM.by _ (fun X o => pss_nil) (stm_next h)
theorem dssm_cons (h : DSM g l st ρ m { E with nx := fun ρ' m' => DSsM g l sts ρ' m' E }) : DSsM g l (st :: sts) ρ m E := DSsM.by _ (fun X o => pss_cons (US.ps o st) (USs.pss o sts)) (stm_seq h)
theorem dssm_one (h : DSM g l st ρ m E) : DSsM g l [st] ρ m E := DSsM.by _ (fun X o => pss_one (US.ps o st)) h
theorem dsm_of {E' : Po} (h : DS g l st ρ E') (hn : ∀ ρ, E'.nx ρ → E.nx ρ m) (hr : ∀ d, ¬ E'.rt d) (hb : ∀ ρ, E'.bk ρ → E.bk ρ m) (hc : ∀ ρ, E'.ct ρ → E.ct ρ m) : DSM g l st ρ m E := stm_pure h hn hr hb hc
theorem dsm_set (i : Nat) (nd : l.N.Nodup) (h : DEM g l e ρ m d m') (q : E.nx (ρ.set i (.val d)) m') (hN : l.N[i]? = some n := by rfl) (hx : Loc l.sc n := by first | exact Or.inl rfl | exact Or.inr rfl) (hf : l.fn n = true ∨ l.sc.names.lookup n = some .local := by first | exact .inl rfl | exact .inr rfl)
    (hs : ∀ env, swapsWith e (some (.Name n py)) pos.line env = pure false := by intro _; rfl) : DSM g l (.Assign [.Name n py] e pos) ρ m E :=
  DSM.by _ (fun X o => ps_set (i := i) (by rw [o.N]; exact nd) (by rw [o.N]; exact hN) (by rw [o.sc]; exact hx) (UE.pe o e) (hs _) (by rcases hf with h | h; exact .inl (o.fn _ h); exact .inr (by rw [o.sc]; exact h))) (stm_asg h q)
theorem dsm_setR (i : Nat) (nd : l.N.Nodup) (h : DER g l e ρ m R) (q : ∀ d m', R d m' → E.nx (ρ.set i (.val d)) m') (hN : l.N[i]? = some n := by rfl) (hx : Loc l.sc n := by first | exact Or.inl rfl | exact Or.inr rfl) (hf : l.fn n = true ∨ l.sc.names.lookup n = some .local := by first | exact .inl rfl | exact .inr rfl)
    (hs : ∀ env, swapsWith e (some (.Name n py)) pos.line env = pure false := by intro _; rfl) : DSM g l (.Assign [.Name n py] e pos) ρ m E :=
  DSM.by _ (fun X o => ps_set (i := i) (by rw [o.N]; exact nd) (by rw [o.N]; exact hN) (by rw [o.sc]; exact hx) (UE.pe o e) (hs _) (by rcases hf with h | h; exact .inl (o.fn _ h); exact .inr (by rw [o.sc]; exact h))) (stm_asgR h q)
theorem dsm_ret (h : DEM g l e ρ m d m') (q : E.rt d m') : DSM g l (.Return (some e) pos) ρ m E := DSM.by _ (fun X o => ps_ret (UE.pe o e)) (stm_ret h q)
theorem dsm_if (h : DTM g l c ρ m b m') (h1 : b = true → DSsM g l body ρ m' E) (h2 : b = false → DSsM g l orelse ρ m' E) : DSM g l (.If c body orelse pos) ρ m E := DSM.by _ (fun X o => ps_if (UT.pt o c) (USs.pss o body) (USs.pss o orelse)) (stm_if h h1 h2)
theorem dsm_ex (h : DEM g l e ρ m d m') (q : E.nx ρ m') (hs : ∀ env, swapsWith e none pos.line env = pure false := by intro _; rfl) : DSM g l (.Expr e pos) ρ m E := DSM.by _ (fun X o => ps_expr (UE.pe o e) (hs _)) (stm_drop h q)
theorem dsm_for {is : List Nat} (hi : DI g l tg iter ρ ds) (I : Nat → Rho → Mo → Prop) (h0 : I 0 ρ m)
    (hs : ∀ i d ρ' m', ds[i]? = some d → I i ρ' m' → ∃ ρ'', DG g l tg is d ρ' ρ'' ∧ DSsM g l body ρ'' m' { nx := I (i + 1), ct := I (i + 1), bk := E.nx, rt := E.rt }) (hd : ∀ ρ' m', I ds.length ρ' m' → E.nx ρ' m')
    (hf : ∀ env x, foldedSetIterable iter env x = pure x := by intro _ _; rfl) (hcl : l.cb = true := by rfl) : DSM g l (.For tg iter body [] pos) ρ m E :=
  DSM.by _ (fun X o => ps_for (o.po hcl) (o.calm hcl) (UI.pi o tg iter) (UG.pg o tg) (USs.pss o body) (hf _)) (stm_for hi I h0 (fun i d ρ' m' hd hI => let ⟨ρ'', h1, h2⟩ := hs i d ρ' m' hd hI; ⟨ρ'', h1.tg, h2⟩) hd)
end
/-! ### defs that change a mutable thing -/
structure Bk (m : Mo) (S H : Hp) (m' : Mo) (S' H' : Hp) : Prop where
  s : Ex S S'
  h : ∀ q o, ¬ m.dom q → H q = some o → H' q = some o
  sub : Ex S' H'
  z : ∀ q, m'.dom q → S' q = none ∧ H' q ≠ none
  dm : ∀ q, m'.dom q → m.dom q ∨ H q = none
  new : ∀ q o, S' q = some o → S q = none → m.dom q ∨ H q = none
  p : m'.P S' H'
/-- a promise over data and a mutable thing: behind it stands what R tells -/
def spM (K : PySem.W.Frag) (A : Mo → List DV → (DV → Mo → Prop) → Prop) : Sp := fun vs H Q _ => ∃ S m ds R, Ex S H ∧ (∀ q, m.dom q → S q = none ∧ H q ≠ none) ∧ m.P S H ∧ RpA K S vs ds ∧ A m ds R ∧ ∀ d m' v S' H', R d m' → Bk m S H m' S' H' → Rp K S' v d → Q v H'
section
variable {K : PySem.W.Frag} {S0 H0 B S H S' H' : Hp} {σ : L2.St} {ρ : Rho} {m m' : Mo}
theorem Sm.h0 (s : Sm K S0 H0 B σ S H ρ m) {q : Addr} (h : m.dom q ∨ H q = none) : H0 q = none := by
  by_cases z : m.dom q
  · exact (s.d.z q z).1
  · have e := s.g.h.free (h.resolve_left z)
    rw [mix_out z] at e
    exact e
theorem Sm.back (s : Sm K S0 H0 B σ S H ρ m) (b : Bk m S H m' S' H') : Sm K S0 H0 B σ S' H' ρ m' := by
  have h0 : ∀ q, m'.dom q → H0 q = none := fun q z => s.h0 (b.dm q z)
  refine ⟨⟨s.g.s.tr b.s, fun q o z => ?_, b.sub, fun q o z n => ?_⟩, s.b.tr b.s, ⟨s.n.len, fun i v x a c => ?_, s.n.sep⟩, ⟨fun q z => ⟨h0 q z, ?_, (b.z q z).1, (b.z q z).2⟩, b.p⟩⟩
  · by_cases w : m'.dom q
    · rw [mix_in w] at z; exact z
    · rw [mix_out w] at z
      have nq : ¬ m.dom q := fun y => by rw [(s.d.z q y).1] at z; cases z
      exact b.h q o nq (s.g.h q o (by rw [mix_out nq]; exact z))
  · have w : ¬ m'.dom q := fun y => by rw [(b.z q y).1] at z; cases z
    rw [mix_out w]
    cases e : S q with
    | none => exact s.h0 (b.new q o z e)
    | some u =>
      have k := s.g.new q u e n
      have nq : ¬ m.dom q := fun y => by rw [(s.d.z q y).2.2.1] at e; cases e
      rw [mix_out nq] at k
      exact k
  · have k := s.n.at_ i v x a c
    cases x with
    | un => trivial
    | exo _ _ _ => obtain ⟨a1, fs, b1, c1⟩ := k; exact ⟨a1, fs, b.s _ _ b1, c1.up b.s⟩
    | val d' => obtain ⟨u, k1, k2⟩ := k; exact ⟨u, k1, k2.up b.s⟩
    | ownD d' =>
      obtain ⟨p', o', k1, k2, k3, k4, k5⟩ := k
      have nq : ¬ m.dom p' := fun y => by rw [mix_in y, k4] at k2; cases k2
      have nn : ¬ (m.dom p' ∨ H p' = none) := fun y => y.elim nq (fun y => by rw [k4] at y; cases y)
      have nq' : ¬ m'.dom p' := fun y => nn (b.dm p' y)
      rw [mix_out nq] at k2
      refine ⟨p', o', k1, by rw [mix_out nq']; exact k2, ?_, b.h p' o' nq k4, k5.up b.s⟩
      cases e : S' p' with
      | none => rfl
      | some u => exact absurd (b.new p' u e k3) nn
  · cases e : S0 q with
    | none => rfl
    | some u =>
      have := b.s q u (s.g.s q u e)
      rw [(b.z q z).1] at this
      cases this
open Classical in
noncomputable def hidM (m : Mo) (H : Hp) : Hp := fun q => if m.dom q then none else H q
theorem hidM_in {q : Addr} (h : m.dom q) : hidM m H q = none := by unfold hidM; rw [if_pos h]
theorem hidM_out {q : Addr} (h : ¬ m.dom q) : hidM m H q = H q := by unfold hidM; rw [if_neg h]
theorem hidM_none {q : Addr} (h : hidM m H q = none) : m.dom q ∨ H q = none := by
  by_cases z : m.dom q
  · exact .inl z
  · rw [hidM_out z] at h; exact .inr h
theorem mix_hid : mix m (hidM m H) H = H := funext fun q => by
  by_cases z : m.dom q
  · rw [mix_in z]
  · rw [mix_out z, hidM_out z]
theorem bk_of (g : Go S (mix m' (hidM m H) H') S' H') (d : Md m' S (hidM m H) S' H') : Bk m S H m' S' H' where
  s := g.s
  h := fun q o nq z => by
    have w : ¬ m'.dom q := fun y => by
      have := (d.z q y).1
      rw [hidM_out nq, z] at this
      cases this
    exact g.h q o (by rw [mix_out w, hidM_out nq]; exact z)
  sub := g.sub
  z := fun q y => ⟨(d.z q y).2.2.1, (d.z q y).2.2.2⟩
  dm := fun q y => hidM_none (d.z q y).1
  new := fun q o a n => by
    have w : ¬ m'.dom q := fun y => by rw [(d.z q y).2.2.1] at a; cases a
    have k := g.new q o a n
    rw [mix_out w] at k
    exact hidM_none k
  p := d.p
theorem fn_okM {g : Gb} {x qual : Str} {st : Stmt} {f : Addr} {fd : FuncData} {N ps : List Str} {k : Nat} {A : Mo → List DV → (DV → Mo → Prop) → Prop} (F : Fun g.K x qual st f fd) (S : FnScope N ps (defScope st)) (len : ∀ m ds R, A m ds R → ds.length = ps.length)
    (body : ∀ m ds R, A m ds R → DSsM g ⟨k, N, defScope st, fun _ => true, true, none⟩ (defBody st) (rho0 N ds) m { nx := fun _ m' => R .non m', rt := R }) : FnOk g.P g.w g.K g.mg g.base CX0 (k + 1) f fd ps (spM g.K A) := by
  refine F.ok S (fun vs H Q E ⟨S0, m, ds, R, e, _, _, ra, hR, _⟩ => by rw [ra.len]; exact len m ds R hR) (fun cdv A' outer s H vs Q E hr ⟨S0, m, ds, R, e, hz, hp, ra, hR, q⟩ => ?_)
  refine ⟨USs g ⟨k, N, defScope st, fun _ => true, true, none⟩ (defBody st), USs.pss ⟨rfl, rfl, rfl, rfl, rfl, rfl, rfl, fun _ _ => rfl, fun _ => rfl, fun _ => hr, hr.un, fun _ => PassesOwn.never, fun _ _ _ h => by cases h⟩ _, ?_⟩
  refine body m ds R hR S0 (hidM m H) S0 _ S0 H _ ⟨by rw [mix_hid]; exact Go.rf e, Ex.rf _, en_start ra, ⟨fun q y => ⟨hidM_in y, (hz q y).1, (hz q y).1, (hz q y).2⟩, hp⟩⟩ ⟨fun ρ m' σ S1 H1 z s1 => ?_, fun d m' v S1 H1 z r1 => ?_, fun _ _ _ _ _ z => z.elim, fun _ _ _ _ _ z => z.elim⟩
  · exact q .non m' .non S1 H1 z (bk_of s1.g s1.d) .non
  · exact q d m' v S1 H1 z (bk_of r1.go r1.md) r1.rp
end
/-- a method that changes its object -/
structure MeM (g : Gb) (k : Nat) (C : Addr) (n : Str) (A : Mo → List DV → (DV → Mo → Prop) → Prop) : Prop where
  ex : ∃ f, Meth g.K C n f ∧ ∃ fd ps, FnOk g.P g.w g.K g.mg g.base CX0 k f fd ps (spM g.K A) ∧ Binds g.K fd ps []
/-- at p stands an instance of C without the attribute n -/
def InsAt (m : Mo) (p C : Addr) (n : Str) : Prop := ∀ S H, m.P S H → ∃ dx fs, H p = some (.ins C dx fs) ∧ fs.lookup n = none
section
variable {g : Gb} {l : Lc} {ρ : Rho} {m : Mo} {a c e o : Expr} {es : List Expr} {d : DV} {ds : List DV} {pos apos : Pos} {n : Str} {p C : Addr} {R : DV → Mo → Prop} {A : Mo → List DV → (DV → Mo → Prop) → Prop}
theorem evr_meth {K : PySem.W.Frag} {te : TE} {ta : TA} (hI : InsAt m p C n) (h : EvD K te ρ (.adr p)) (ha : EvA K ta ρ ds) (hA : A m (.adr p :: ds) R) : EvR K (tMeth C n (spM K A) [] E0 te ta) ρ m R := fun S0 H0 B σ S H s Q q =>
  h _ σ S H s.g.sub s.n _ fun v S1 H1 g1 r1 => by
    have s1 := s.go g1
    cases r1
    obtain ⟨dx, fs, hp, hl⟩ := hI S1 H1 s1.d.p
    refine ⟨p, dx, fs, rfl, hp, hl, ha _ σ S1 H1 s1.g.sub s1.n _ fun vs S2 H2 g2 r2 => ?_⟩
    have s2 := s1.go g2
    refine ⟨S2, m, _, R, s2.g.sub, fun q y => ⟨(s2.d.z q y).2.2.1, (s2.d.z q y).2.2.2⟩, s2.d.p, by rw [List.append_nil]; exact .cons (.adr p) r2, hA, fun d m' v S3 H3 hR b r3 => ?_⟩
    exact q d m' v S3 H3 hR (s2.back b) ((g1.s.tr g2.s).tr b.s) r3
theorem der_meth {k : Nat} {pl : Env → Sem Bool} (c : Cls g.K C) (M : MeM g k C n A) (hI : InsAt m p C n) (h : DE g l o ρ (.adr p)) (ha : DA g l (e :: es) ρ ds) (hA : A m (.adr p :: ds) R) (hk : k ≤ l.k := by decide)
    (hst : ∀ env, starEach (e :: es) env = (false, eval e env) :: starEach es env := by intro _; rfl) (hpl : ∀ env, (backTo pos (starEach es env)).any (·.1) = false := by intro _; rfl)
    (ht : ∀ env, eval (.Call (.Attribute o n apos) (e :: es) [] pos) env = (do
      let ov ← eval o env; standAt apos.atName; let (f, first) ← holding [ov] (getMethod ov n (pl env)); callWith pos f first (backTo pos (starEach (e :: es) env)) (backToKw pos (keywordEach [] env))) := by intro _; rfl) (hcl : l.cb = true := by rfl) : DER g l (.Call (.Attribute o n apos) (e :: es) [] pos) ρ m R := by
  obtain ⟨f, hm, fd, ps, ok, hb⟩ := M.ex
  exact DER.by (tMeth C n (spM g.K A) [] E0 (UE g l o) (UA g l (e :: es))) (fun X x => pe_meth (pl := pl _) (CX := CX0) (k := k) (UE.pe x o) (by rw [x.K]; exact c) (by rw [x.K]; exact hm) (by rw [x.prog, x.w, x.K, x.mg, x.base]; exact ok) ((x.room hcl).mono hk) (ds := []) (by rw [x.K]; exact hb) .nil pass0 (UA.pa x _) (hst _) (hpl _) (ht _)) (evr_meth hI h ha hA)
theorem der_meth0 {k : Nat} {pl : Env → Sem Bool} (c : Cls g.K C) (M : MeM g k C n A) (hI : InsAt m p C n) (h : DE g l o ρ (.adr p)) (hA : A m [.adr p] R) (hk : k ≤ l.k := by decide)
    (ht : ∀ env, eval (.Call (.Attribute o n apos) [] [] pos) env = (do
      let ov ← eval o env; standAt apos.atName; let (f, first) ← holding [ov] (getMethod ov n (pl env)); callWith pos f first (backTo pos (starEach [] env)) (backToKw pos (keywordEach [] env))) := by intro _; rfl) (hcl : l.cb = true := by rfl) : DER g l (.Call (.Attribute o n apos) [] [] pos) ρ m R := by
  obtain ⟨f, hm, fd, ps, ok, hb⟩ := M.ex
  exact DER.by (tMeth C n (spM g.K A) [] E0 (UE g l o) tNil) (fun X x => pe_meth0 (pl := pl _) (CX := CX0) (k := k) (UE.pe x o) (by rw [x.K]; exact c) (by rw [x.K]; exact hm) (by rw [x.prog, x.w, x.K, x.mg, x.base]; exact ok) ((x.room hcl).mono hk) (ds := []) (by rw [x.K]; exact hb) .nil pass0 (ht _)) (evr_meth hI h ea_nil hA)
structure MkM (g : Gb) (k : Nat) (C : Addr) (x : Str) (A : Mo → List DV → (DV → Mo → Prop) → Prop) : Prop where
  mg : g.mg x = some (.ref C)
  ex : ∃ f fd ps, Mk g.K C f ∧ FnOk g.P g.w g.K g.mg g.base CX0 k f fd ps (spM g.K A) ∧ Binds g.K fd ps []
end
end PD

/-! The search, as a plain function; the object that it runs on. -/
namespace SP
open PySem PySem.Spec PyProof.Rows L2 PD
/-! ### lists of pairs as dicts -/
end SP

/-! The search's object: what changes it. -/
namespace SP
open PySem PySem.Spec PyProof.Rows L2 PD
section
variable {K : PySem.W.Frag} {S H H' : Hp}
end
section
variable {K : PySem.W.Frag} {W : World} {CS : Addr} {gd : DV} {p c o w : Addr} {ls : List Addr} {s : SS} {S H : Hp}
end
theorem Sm.upd' {K : PySem.W.Frag} {S0 H0 B S H : Hp} {σ : L2.St} {ρ : Rho} {m m' : Mo} {a : Addr} {u : HO} (s : Sm K S0 H0 B σ S H ρ m) (ha : m.dom a) (hd : ∀ q, m'.dom q → m.dom q) (hP : m'.P S (upd H a u)) : Sm K S0 H0 B σ S (upd H a u) ρ m' :=
  s.back ⟨Ex.rf S, fun q o nq z => by rw [upd_ne (show q ≠ a from fun y => nq (by rw [y]; exact ha))]; exact z, Ex.off s.g.sub (s.d.z a ha).2.2.1, fun q y => ⟨(s.d.z q (hd q y)).2.2.1, by
    by_cases e : q = a
    · rw [e, upd_same]; exact fun z => by cases z
    · rw [upd_ne e]; exact (s.d.z q (hd q y)).2.2.2⟩, fun q y => .inl (hd q y), fun q o z n => (by rw [n] at z; cases z), hP⟩
end SP

/-! The search's object: the statements that change it. -/
namespace SP
open PySem PySem.Spec PyProof.Rows L2 PD
section
variable {K : PySem.W.Frag} {W : World} {CS : Addr} {gd : DV} {p c o w : Addr} {ls : List Addr} {s : SS} {ρ : Rho} {E : Pm} {te ta tk tv : TE} {i j k : Nat} {d x : DV}
end
end SP

namespace SP
open PySem PySem.Spec PyProof.Rows L2 PD
variable {g : Gb} {M : Addr} {tG : Tok}
/-! all pieces, all orders -/
end SP

/-! The search's object: what reads it. -/
namespace SP
open PySem PySem.Spec PyProof.Rows L2 PD
variable {g : Gb} {CS : Addr}
section
variable {l : Lc} {ρ : Rho} {e a b : Expr} {pos p : Pos} {ds : List DV}
end
/-! the attributes -/
section
variable {W : World} {gd : DV} {s : SS}
end
/-! ready_at -/
/-! constants -/
/-! ends_at -/
/-! least_cost -/
/-! nodes -/
/-! count_below -/
/-! while, without mutable things -/
/-! way -/
/-! bounds -/
end SP

/-! The search: in order throughout; its mirror. -/
namespace SP
open PySem PySem.Spec PyProof.Rows L2 PD
/-! the mirror -/
end SP

/-! The search: expand, run. -/
namespace SP
open PySem PySem.Spec PyProof.Rows L2 PD
/-! what is walked, with a mutable thing -/
section
variable {K : PySem.W.Frag} {ρ ρ' : Rho} {m m' : Mo} {te : TE} {ts : TS} {E : Pm} {ds : List DV}
end
section
variable {g : Gb} {l : Lc} {ρ : Rho} {m : Mo} {tg iter : Expr} {body : List Stmt} {ds : List DV} {pos : Pos} {E : Pm}
end
variable {g : Gb} {CS CG : Addr}
section
variable {kS : Nat} {gs : List (Str × DV)} {N : DV → Prop} {st : DV → List Stp} {start : DV} {least : Int} {RS : List DV → DV → Prop} {p c o w : Addr} {ls : List Addr} {s : SS} {ρ : Rho} {l : Lc}
end
/-! the statements by syntax -/
section
variable {l : Lc} {ρ : Rho} {E : Pm} {gd : DV} {p c o w : Addr} {ls : List Addr} {s : SS} {i j k : Nat} {d : DV} {nm n2 n3 : Str} {e1 e2 : Expr} {p1 p2 p3 p4 p5 p6 p7 p8 p9 : Pos} {cost lv : Int}
end
/-! expand -/
end SP

/-! The search: run, __init__, search. -/
namespace SP
open PySem PySem.Spec PyProof.Rows L2 PD
variable {g : Gb} {CS CG : Addr}
section
variable {l : Lc} {ρ : Rho} {gd : DV} {p c o w : Addr} {ls : List Addr} {s : SS} {nm : Str} {p1 p2 : Pos}
end
/-! run -/
end SP

/-! The search: __init__, search. -/
namespace SP
open PySem PySem.Spec PyProof.Rows L2 PD
variable {g : Gb} {CS CG : Addr}
/-! search -/
end SP

namespace SP
open PySem PySem.Spec PyProof.Rows L2 PD
variable {g : Gb} {M : Addr} {tG : Tok}
end SP

/-! The moves' writes are the safe writes. -/
namespace SP
open PySem L2 PD
end SP

/-! The graph of changes: states as keys, steps. -/
namespace SP
open PySem PySem.Spec PyProof.Rows L2 PD
/-! states as keys -/
/-! the moves as tuples -/
section
variable {n : Nat} {M : Addr} {ls : Str} {nb : Nat} {pp op : Int} {tn : Bool} {old new : Str} {start : DV}
end
variable {g : Gb} {C M CG : Addr} {tG : Tok}
/-! is_open -/
end SP

/-! ChangeGraph(file, text). -/
namespace PD
open PySem PySem.Spec PyProof.Rows L2
section
variable {g : Gb} {n : Nat} {l : Lc} {ρ : Rho} {C M : Addr} {gs gm : List (Str × DV)} {f f1 f2 nm : Str} {d : DV} {p1 p2 p3 p4 p5 p6 : Pos}
end
end PD
namespace SP
open PySem PySem.Spec PyProof.Rows L2 PD
variable {g : Gb} {C M CG : Addr} {tG : Tok} {n : Nat}
end SP

/-! More with a bound: arguments, stores, methods. -/
namespace PD
open PySem PySem.Spec PyProof.Rows L2
section
variable {X : Cx} {CX : CXT} {k n : Nat} {f C : Addr} {fd : FuncData} {ps : List Str} {sp : Sp} {E : XK} {x m : Str} {p pos apos : Pos} {e o : Expr} {es : List Expr} {t : TA} {te ta : TE}
end
section
variable (g : Gb) (n : Nat) (l : Lc)
end
section
variable {g : Gb} {n : Nat} {l : Lc} {ρ : Rho} {e o : Expr} {es : List Expr} {ds : List DV} {d : DV} {x m nm : Str} {p pos py apos : Pos} {k : Nat} {C : Addr} {gs : List (Str × DV)} {R : List DV → DV → Prop} {E : Po}
end
end PD

/-! What is raised, from states in which at least n identities have been given out. -/
namespace PD
open PySem PySem.Spec PyProof.Rows L2
section
variable {X : Cx} {CX : CXT} {k n : Nat} {f C : Addr} {fd : FuncData} {ps : List Str} {sp : Sp} {E : L2.St → XK} {x : Str} {p pos : Pos} {e o : Expr} {es : List Expr} {te : TE} {t : TA}
end
section
variable (g : Gb) (n : Nat) (l : Lc)
end
section
variable {g : Gb} {n k : Nat} {l : Lc} {X : Cx} {W : WX} {ρ : Rho} {e c : Expr} {es : List Expr} {st : Stmt} {sts body orelse : List Stmt} {E : Po} {Z : Zo} {o : Out} {d : DV} {ds : List DV} {pos p p2 py : Pos} {x : Bool} {nm : Str}
end
end PD

/-! try .. except X as e, from states in which at least n identities have been given out. -/
namespace PD
open PySem PySem.Spec PyProof.Rows L2
section
variable {X : Cx} {x nm : Str} {cl : Value} {i n : Nat} {body rest : List Stmt} {first : Stmt} {np pos pos' : Pos} {tb : WX → TS} {ts : Addr → Value → Option Addr → TS} {Wo : WX}
end
end PD

/-! f(lambda: ..): told too: of what is known, the maker's own table alone is changed. -/
namespace PD
open PySem PySem.Spec PyProof.Rows L2 LamX
/-- what the making of a lambda does: nothing that is known, or a code object is new and stands in the maker's own table at P -/
def TabStep (P : Addr) (q : Str) (H H1 : Hp) : Prop := H1 = H ∨ ∃ (ps : Array Value) (pos : Pos) (c' : Addr), H P = some (.tbl ps) ∧ TriplesOk ps.toList ∧ H c' = none ∧ P ≠ c' ∧ H1 = upd (upd H P (.tbl (ps ++ #[rawInt pos.line, rawInt pos.col, .ref c']))) c' (CodeO c' q)
theorem step_toList (ps : Array Value) (pos : Pos) (c' : Addr) : (ps ++ #[rawInt pos.line, rawInt pos.col, .ref c']).toList = ps.toList ++ [rawInt pos.line, rawInt pos.col, .ref c'] := by simp
section
variable {X : Cx} {pins : List (Addr × Obj)} {σ : L2.St} {H : Hp} {s : Shared}
theorem lam_makeP {T : List (Addr × Str)} {c P : Addr} {params : Arguments} {body : Expr} {scope : Scope} {pos : Pos} {q : Str} {E : Value → Shared → Prop} {Q : Value → Shared → Prop} (I : Inv X pins σ H s) (TB : TabB X.base X.mg c P) (hcode : X.env.code = .ref c) (eq : X.env.qual ++ "<lambda>" = q)
    (hm : (P, q) ∈ T) (hT : Tabs T H) (hdef : defaultsOf params X.env = ([], [])) (hfree : ∀ y ∈ scope.names, y.2 = .free → ∃ c, X.env.cells.lookup y.1 = some c)
    (h : ∀ (f c' : Addr) (pm ctv : Value) (H1 : Hp) (s' : Shared), Inv X pins σ H1 s' → TabStep P q H H1 → s'.heap.get? f = some (PySem.W.kla_obj "<lambda>" q params body scope (cloFrom X.env.cells scope.names []) pm c' ctv) → H1 f = none → f ∉ frs X.stack → H1 c' = some (CodeO c' q) → Q (.ref f) s') :
    wpAny (model X.prog X.w) X.A (eval (.Lambda params body scope pos) X.env) Q E s := by
  subst eq
  obtain ⟨ps, hP, ht, ha⟩ := hT _ hm
  have inHeap : s.heap.get? P = some { cls := .none, data := .fields ps } := I.hok P _ hP
  have boot := TB.bm.keeps I.bk
  have away : ∀ {f}, s.heap.objs.size ≤ f → f ∉ frs X.stack := fun {f} hf z => by
    rcases List.mem_cons.mp (I.stkSub _ z) with e | e
    · exact Nat.lt_irrefl _ (Nat.lt_of_lt_of_le (e ▸ I.lt) hf)
    · exact I.nofs hf e
  refine PySem.W.kla_eval hdef ?_
  cases hc : codeAmong pos ps.toList with
  | some cv =>
    obtain ⟨c', rfl, hco⟩ := ha pos cv hc
    refine PySem.W.kla_makeFunctionHit (mg := X.mg) (c := c) (P := P) (ps := ps) (closure_ok hfree) I.ok.glob (I.mod.glob.keeps I.bk) hcode (TB.code.keeps I.bk) inHeap ht hc boot fun ctv h' tk hx hsz => ?_
    exact h h'.objs.size c' _ ctv H _ (I.kept (t' := tk) fun b o e => Heap.get?_push_of_some _ (hx b o e)) (.inl rfl) (Heap.get?_push_size _ rfl) (I.hok.fresh hsz) (away hsz) hco
  | none =>
    refine PySem.W.kla_makeFunction (mg := X.mg) (c := c) (P := P) (ps := ps) (closure_ok hfree) I.ok.glob (I.mod.glob.keeps I.bk) hcode (TB.code.keeps I.bk) inHeap ht hc TB.gP boot fun c' ctv h' tk hx hge hlt hrec htb => ?_
    obtain ⟨c2, oc, vs, t, e2, hoc, hd, hv⟩ := hrec
    cases e2
    have hsz : s.heap.objs.size ≤ h'.objs.size := Nat.le_trans hge (Nat.le_of_lt hlt)
    have nC : H c' = none := I.hok.fresh hge
    have nPc : P ≠ c' := ne_of_none hP nC
    have J := inv_table (t' := tk) (more := #[rawInt pos.line, rawInt pos.col, .ref c']) (h' := h'.push (PySem.W.kla_obj "<lambda>" (X.env.qual ++ "<lambda>") params body scope (cloFrom X.env.cells scope.names []) ((X.mg "__name__").getD .none) c' ctv)) I hP (fun b o hb e => Heap.get?_push_of_some _ (hx b o hb e)) (Heap.get?_push_of_some _ htb) hge ⟨oc, vs, t, Heap.get?_push_of_some _ hoc, hd, hv⟩
    refine h h'.objs.size c' _ ctv _ _ J (.inr ⟨ps, pos, c', hP, ht, nC, nPc, rfl⟩) (Heap.get?_push_size _ rfl) ?_ (away hsz) upd_same
    · have n1 : h'.objs.size ≠ c' := Nat.ne_of_gt hlt
      have n2 : h'.objs.size ≠ P := Nat.ne_of_gt (Nat.lt_of_lt_of_le (Heap.lt_size inHeap) hsz)
      rw [upd_ne n1, upd_ne n2]
      exact I.hok.fresh hsz
end
end PD

/-! f(lambda: ..), from states in which at least n identities have been given out; what is raised in it goes on. -/
namespace PD
open PySem PySem.Spec PyProof.Rows L2 LamX
section
variable {X : Cx} {pins : List (Addr × Obj)} {σ : L2.St} {H HZ : Hp} {s : Shared} {n : Nat}
end
end PD

/-! _law_raised: what it says of a lambda. -/
namespace SP
open PySem PySem.Spec PyProof.Rows L2 PD LamX
end SP

/-! Tables of code objects as a mutable thing; defs that make lambdas, by syntax. -/
namespace PD
open PySem PySem.Spec PyProof.Rows L2 LamX
def TabsS (T : List (Addr × Str)) (S H : Hp) : Prop := ∀ p ∈ T, ∃ ps : Array Value, H p.1 = some (.tbl ps) ∧ TriplesOk ps.toList ∧ ∀ (pos : Pos) (cv : Value), codeAmong pos ps.toList = some cv → ∃ c, cv = .ref c ∧ S c = some (CodeO c p.2)
def tabM (T : List (Addr × Str)) : Mo := ⟨fun q => q ∈ T.map (·.1), TabsS T, fun S H S' H' e k h p hp => by
  obtain ⟨ps, h1, h2, h3⟩ := h p hp
  refine ⟨ps, by rw [k p.1 (List.mem_map_of_mem hp)]; exact h1, h2, fun pos cv hc => ?_⟩
  obtain ⟨c, e1, e2⟩ := h3 pos cv hc
  exact ⟨c, e1, e _ _ e2⟩⟩
theorem En.h0 {K : PySem.W.Frag} {H9 H8 S H : Hp} {σ : L2.St} {ρ : Rho} (n : En K H9 S H σ ρ) (e : ∀ p, H9 p = none → H8 p = none) : En K H8 S H σ ρ where
  len := n.len
  at_ := fun i v x a c => by
    have k := n.at_ i v x a c
    cases x with
    | un => trivial
    | exo _ _ _ => exact k
    | val d' => exact k
    | ownD d' =>
      obtain ⟨p', o', k1, k2, k3⟩ := k
      exact ⟨p', o', k1, e _ k2, k3⟩
  sep := n.sep
section
variable {K : PySem.W.Frag} {S0 H0 B S H H1 : Hp} {σ : L2.St} {ρ : Rho} {T : List (Addr × Str)} {P : Addr} {q : Str}
end
/-! what a lambda's body does; its value is dropped -/
/-! by syntax: c the maker's code object, q what its lambdas are called -/
structure OfC (g : Gb) (l : Lc) (c : Addr) (q : Str) (X : Cx) : Prop where
  o : Of g l X
  code : X.env.code = .ref c
  qual : X.env.qual ++ "<lambda>" = q
section
variable (g : Gb) (n : Nat) (l : Lc) (c : Addr) (q : Str)
def UEC (e : Expr) : TE := fun σ H Q => ∃ t, (∀ X, OfC g l c q X → PN X n e t) ∧ t σ H Q
def UTC (e : Expr) : TT := fun σ H Q => ∃ t, (∀ X, OfC g l c q X → PTN X n e t) ∧ t σ H Q
def USC (st : Stmt) : TS := fun D σ H => ∃ t, (∀ X, OfC g l c q X → SN X n st t) ∧ t D σ H
def USsC (st : List Stmt) : TS := fun D σ H => ∃ t, (∀ X, OfC g l c q X → SsN X n st t) ∧ t D σ H
def DEC (e : Expr) (ρ : Rho) (m : Mo) (d : DV) (m' : Mo) : Prop := EvU g.K (UEC g n l c q e) ρ m d m'
def DTC (e : Expr) (ρ : Rho) (m : Mo) (b : Bool) (m' : Mo) : Prop := EvBU g.K (UTC g n l c q e) ρ m b m'
def DSC (st : Stmt) (ρ : Rho) (m : Mo) (E : Pm) : Prop := StM g.K (USC g n l c q st) ρ m E
def DSsC (sts : List Stmt) (ρ : Rho) (m : Mo) (E : Pm) : Prop := StM g.K (USsC g n l c q sts) ρ m E
end
section
variable {K : PySem.W.Frag} {ρ : Rho} {m m' : Mo} {ta tb : TE} {a b d : DV} {r : R2} {x : Bool}
theorem evu_op (ha : EvU K ta ρ m a m') (hb : EvD K tb ρ b) (hr : OpD K r a b d) : EvU K (tOp r ta tb) ρ m d m' := fun S0 H0 B σ S H s Q q =>
  ha S0 H0 B σ S H s _ fun x S1 H1 s1 e1 r1 => hb _ σ S1 H1 s1.g.sub s1.n _ fun y S2 H2 g2 r2 => hr S2 H2 x y g2.sub (r1.up g2.s) r2 Q fun v S3 H3 g3 r3 => q v S3 H3 ((s1.go g2).go g3) (e1.tr (g2.s.tr g3.s)) r3
theorem ebu_test (h : EvU K ta ρ m (.bl x) m') : EvBU K (tTest ta) ρ m x m' := fun S0 H0 B σ S H s Q q => h S0 H0 B σ S H s _ fun v S1 H1 s1 e1 r1 => by
  cases r1
  exact ⟨x, rfl, q S1 H1 s1 e1⟩
theorem ebu_val (h : EvU K ta ρ m (.bl x) m') : EvBU K (tB ta) ρ m x m' := fun S0 H0 B σ S H s Q q => h S0 H0 B σ S H s _ fun v S1 H1 s1 e1 r1 => by
  cases r1
  exact ⟨x, rfl, q S1 H1 s1 e1⟩
theorem ebu_not {t : TT} (h : EvBU K t ρ m x m') : EvBU K (tNot t) ρ m (!x) m' := fun S0 H0 B σ S H s Q q => h S0 H0 B σ S H s _ fun S1 H1 s1 e1 => q S1 H1 s1 e1
end
section
variable {g : Gb} {n : Nat} {l : Lc} {c : Addr} {q : Str} {ρ ρ' : Rho} {m m' m2 : Mo} {e a b tg iter cnd : Expr} {es : List Expr} {d da db : DV} {ds : List DV} {x y : Bool} {pos p : Pos} {E : Pm} {st : Stmt} {sts body orelse : List Stmt} {nm : Str}
theorem UEC.pn {X : Cx} (o : OfC g l c q X) (e : Expr) : PN X n e (UEC g n l c q e) := ⟨fun pins s σ H Q ht I ⟨t, h, z⟩ => (h X o).run pins s σ H Q ht I z⟩
theorem UTC.pt {X : Cx} (o : OfC g l c q X) (e : Expr) : PTN X n e (UTC g n l c q e) := ⟨fun pins s σ H Q ht I ⟨t, h, z⟩ => (h X o).run pins s σ H Q ht I z⟩
theorem USC.sn {X : Cx} (o : OfC g l c q X) (st : Stmt) : SN X n st (USC g n l c q st) := ⟨fun pins s σ H D ht I ⟨t, h, z⟩ => (h X o).run pins s σ H D ht I z⟩
theorem USsC.sn {X : Cx} (o : OfC g l c q X) (st : List Stmt) : SsN X n st (USsC g n l c q st) := ⟨fun pins s σ H D ht I ⟨t, h, z⟩ => (h X o).run pins s σ H D ht I z⟩
theorem DEC.by (t : TE) (h : ∀ X, OfC g l c q X → PN X n e t) (v : EvU g.K t ρ m d m') : DEC g n l c q e ρ m d m' := fun S0 H0 B σ S H s Q z => ⟨t, h, v S0 H0 B σ S H s Q z⟩
theorem DTC.by (t : TT) (h : ∀ X, OfC g l c q X → PTN X n e t) (v : EvBU g.K t ρ m x m') : DTC g n l c q e ρ m x m' := fun S0 H0 B σ S H s Q z => ⟨t, h, v S0 H0 B σ S H s Q z⟩
theorem DSC.by (t : TS) (h : ∀ X, OfC g l c q X → SN X n st t) (v : StM g.K t ρ m E) : DSC g n l c q st ρ m E := fun S0 H0 B σ S H D s o => ⟨t, h, v S0 H0 B σ S H D s o⟩
theorem DSsC.by (t : TS) (h : ∀ X, OfC g l c q X → SsN X n sts t) (v : StM g.K t ρ m E) : DSsC g n l c q sts ρ m E := fun S0 H0 B σ S H D s o => ⟨t, h, v S0 H0 B σ S H D s o⟩
theorem dec_of (h : DEN g n l e ρ d) : DEC g n l c q e ρ m d m := .by _ (fun X o => UEN.pn o.o e) (evu_of h)
theorem dsc_of {E' : Po} (h : DSN g n l st ρ E') (hn : ∀ ρ, E'.nx ρ → E.nx ρ m) (hr : ∀ d, ¬ E'.rt d) (hb : ∀ ρ, E'.bk ρ → E.bk ρ m) (hc : ∀ ρ, E'.ct ρ → E.ct ρ m) : DSC g n l c q st ρ m E := .by _ (fun X o => USN.sn o.o st) (stm_pure h hn hr hb hc)
/-- a plain statement that only goes on -/
theorem dsc_pl (h : DS g l st ρ { nx := fun ρ' => E.nx ρ' m }) : DSC g n l c q st ρ m E := dsc_of (.of h) (fun _ z => z) (fun _ z => z) (fun _ z => z.elim) fun _ z => z.elim
theorem DTC.is (h : DTC g n l c q e ρ m x m') (z : x = y) : DTC g n l c q e ρ m y m' := by rw [← z]; exact h
theorem dssc_nil (h : E.nx ρ m) : DSsC g n l c q [] ρ m E := .by _ (fun X o => .of pss_nil) (stm_next h)
theorem dssc_cons (h : DSC g n l c q st ρ m { E with nx := fun ρ' m' => DSsC g n l c q sts ρ' m' E }) : DSsC g n l c q (st :: sts) ρ m E := .by _ (fun X o => sn_cons (USC.sn o st) (USsC.sn o sts)) (stm_seq h)
theorem dssc_one (h : DSC g n l c q st ρ m E) : DSsC g n l c q [st] ρ m E := dssc_cons (by
  refine fun S0 H0 B σ S H D s o => h S0 H0 B σ S H D s ⟨fun ρ' m' σ' S' H' z s' => ?_, o.rt, o.bk, o.ct⟩
  exact o.nx ρ' m' σ' S' H' (dssc_nil (g := g) (n := n) (l := l) (c := c) (q := q) z) s')
theorem dsc_if (h : DTC g n l c q cnd ρ m x m') (h1 : x = true → DSsC g n l c q body ρ m' E) (h2 : x = false → DSsC g n l c q orelse ρ m' E) : DSC g n l c q (.If cnd body orelse pos) ρ m E := .by _ (fun X o => sn_if (UTC.pt o cnd) (USsC.sn o body) (USsC.sn o orelse)) (stm_if h h1 h2)
theorem dsc_ret (h : DEC g n l c q e ρ m d m') (z : E.rt d m') : DSC g n l c q (.Return (some e) pos) ρ m E := .by _ (fun X o => sn_ret (UEC.pn o e)) (stm_ret h z)
theorem dsc_for {is : List Nat} (hi : DI g l tg iter ρ ds) (I : Nat → Rho → Mo → Prop) (h0 : I 0 ρ m)
    (hs : ∀ i d ρ' m', ds[i]? = some d → I i ρ' m' → ∃ ρ'', DG g l tg is d ρ' ρ'' ∧ DSsC g n l c q body ρ'' m' { nx := I (i + 1), ct := I (i + 1), bk := E.nx, rt := E.rt }) (hd : ∀ ρ' m', I ds.length ρ' m' → E.nx ρ' m')
    (hf : ∀ env x, foldedSetIterable iter env x = pure x := by intro _ _; rfl) (hcl : l.cb = true := by rfl) : DSC g n l c q (.For tg iter body [] pos) ρ m E :=
  .by _ (fun X o => sn_for (o.o.po hcl) (o.o.calm hcl) (UI.pi o.o tg iter) (UG.pg o.o tg) (USsC.sn o body) (hf _)) (stm_for hi I h0 (fun i d ρ' m' hd hI => let ⟨ρ'', h1, h2⟩ := hs i d ρ' m' hd hI; ⟨ρ'', h1.tg, h2⟩) hd)
theorem dtc_e (h : DEC g n l c q e ρ m (.bl x) m') (he : ∀ env whole, isTrue e env whole = (do let v ← whole; standAt e.pos; holding [v] (truthy v)) := by intro _ _; rfl) : DTC g n l c q e ρ m x m' := .by _ (fun X o => ptn_val (UEC.pn o e) (he _)) (ebu_val h)
theorem dtc_not (h : DTC g n l c q a ρ m x m') : DTC g n l c q (.UnaryOp .Not a pos) ρ m (!x) m' := .by _ (fun X o => ptn_not (UTC.pt o a)) (ebu_not h)
theorem dtc_neD (h : da.ok = true) (h' : db.ok = true) (ha : DEC g n l c q a ρ m da m') (hb : DE g l b ρ db) : DTC g n l c q (.Compare a [.NotEq] [b] pos) ρ m (!da.eqv db) m' :=
  .by _ (fun X o => ptn_cmp (r := rNeD g.K) (by have := op_neD (X := X) o.o.u64; rw [o.o.K] at this; exact this) (UEC.pn o a) (UE.pe o.o b) (nomark _)) (ebu_test (evu_op ha hb (od_neD h h')))
end
end PD

/-! _law_raised(lambda: ..), by syntax. -/
namespace SP
open PySem PySem.Spec PyProof.Rows L2 PD LamX
/-! a def that makes lambdas -/
/-- on ds, with the tables, it hands back d -/
def spT (K : PySem.W.Frag) (T : List (Addr × Str)) (R : List DV → DV → Prop) : Sp := spM K fun m ds A => m = tabM T ∧ ∃ r, R ds r ∧ A = fun d m' => d = r ∧ m' = tabM T
/-- a def whose code object is at c -/
structure FunC (K : PySem.W.Frag) (x qual : Str) (st : Stmt) (c f : Addr) (fd : FuncData) : Prop where
  ex : ∃ oc od kV doc pm an ct osl, fd = PySem.W.fnOf x qual (defArgs st) (defBody st) (defScope st) .none kV doc pm an (.ref c) ct ∧ K.lookup f = some ⟨oc, od, .func fd, osl⟩ ∧ PySem.W.codeIn K (.ref c) qual = true
theorem fn_rawC {CX : CXT} {P : Program} {w : World} {K : PySem.W.Frag} {mg : Str → Option Value} {base : Heap} {k n : Nat} {f c : Addr} {fd : FuncData} {x qual : Str} {st : Stmt} {N ps : List Str} {A : Around} {outer : List Env} {s : Shared} {H : Hp} {args : Args} {us : List Value} {vs : List V} {Q : VK} {E : XK}
    (F : FunC K x qual st c f fd) (S : FnScope N ps (defScope st)) (hl : vs.length = ps.length) (hr : Room (k + 1) A) (e0 : Env0 P w K mg base A outer s H) (hb : BindsTo s fd args (ps.zip us)) (r : Vals vs us) (ht : n ≤ s.toks)
    (body : ∀ s1, Room k (A.deeper (envOfC qual (defScope st) s.heap.objs.size f (.ref c))) → Inv (cxOf CX P w K mg base N qual (defScope st) f (.ref c) A outer s H E) [] (start N vs) H s1 → n ≤ s1.toks →
      wpAny (model P w) (cxOf CX P w K mg base N qual (defScope st) f (.ref c) A outer s H E).A (execs (defBody st) (cxOf CX P w K mg base N qual (defScope st) f (.ref c) A outer s H E).env) (SP (cxOf CX P w K mg base N qual (defScope st) f (.ref c) A outer s H E) [] { nx := fun _ H' => Q .non H', rt := Q }) (cxOf CX P w K mg base N qual (defScope st) f (.ref c) A outer s H E).xe s1) :
    codeAny (model P w) A (.call (.ref f) args) (CR CX outer P w H s Q E) s := by
  obtain ⟨oc, od, kV, doc, pm, an, ct, osl, rfl, lk, hcd⟩ := F.ex
  have KX : K.In s.heap := e0.mod.kin.keeps fun b o e => (e0.bs b o e).1
  have lim : s.heap.NoLimit := e0.mod.nolimit.keeps fun b o e => (e0.bs b o e).1
  have kinds : ∀ y ∈ ps.zip us, (defScope st).names.lookup y.1 = some .local ∨ ((defScope st).names.lookup y.1 = some .cell ∧ ((cellsFrom (s.heap.objs.size + 1) (defScope st).names []).lookup y.1).isSome = true) := fun ⟨m, v⟩ hy => by
    rcases S.par m (List.of_mem_zip hy).1 with q | q
    · exact .inl q
    · exact .inr ⟨q, PySem.W.cellsFrom_some _ _ _ (.inl q)⟩
  refine codeAny_call_function hr.depth (KX _ _ lk) rfl S.co S.gen rfl (PySem.W.codeRec_of KX hcd) (hb _ _ _ _ ?_)
  refine thnN ht (wpAny_newFunctionEnv_cells (Q := fun env s1 => env = newEnv (defScope st) s.heap.objs.size mainGlobals (cellsFrom (s.heap.objs.size + 1) (defScope st).names []) (qual ++ ".<locals>.") (some f) (.ref c) none builtinsNs ∧ InCallC s env.locals (bindL env.kindOf (ps.zip us) fun _ => none) env.cells (bindC env.kindOf (ps.zip us) fun _ => none) s1) S.kind kinds fun env he s1 q => ⟨he, q⟩) fun env s1 t1 ⟨he, q⟩ => ?_
  subst he
  refine ⟨lim.keeps q.toInCall.keep, codeAny_func ?_⟩
  have I : Inv (cxOf CX P w K mg base N qual (defScope st) f (.ref c) A outer s H E) [] (start N vs) H s1 := inv_start S hr.hd e0 hl r q
  refine wpAny_mono (body s1 (hr.deeper _) I t1) (fun fl s' hs => ?_) fun e s' hs => hs
  have fin : ∀ {σ' : L2.St} {H' : Hp} {v : V} {u : Value}, Inv (cxOf CX P w K mg base N qual (defScope st) f (.ref c) A outer s H E) [] σ' H' s' → RelV v u → Q v H' → CE outer P w H s Q u s' :=
    fun {σ' H' v u} J rv z => ⟨v, H', J.os, J.bare, J.base, J.hok, rv, z⟩
  match fl, hs with
  | .ret u, ⟨v, σ', H', J, rv, z⟩ => exact fin J rv z
  | .next, ⟨σ', H', J, z⟩ => exact fin (v := V.non) (u := Value.none) J rfl z
  | .brk, ⟨_, _, _, z⟩ => exact False.elim z
  | .cont, ⟨_, _, _, z⟩ => exact False.elim z
theorem fn_okT {g : Gb} {n : Nat} {x qual : Str} {st : Stmt} {f c : Addr} {fd : FuncData} {N ps : List Str} {k : Nat} {T : List (Addr × Str)} {R : List DV → DV → Prop} {q : Str} (F : FunC g.K x qual st c f fd) (hq : qual ++ ".<locals>." ++ "<lambda>" = q) (S : FnScope N ps (defScope st)) (len : ∀ ds d, R ds d → ds.length = ps.length)
    (body : ∀ ds d, R ds d → DSsC g n ⟨k, N, defScope st, fun _ => true, true, none⟩ c q (defBody st) (rho0 N ds) (tabM T) { nx := fun _ _ => False, rt := fun r m => r = d ∧ m = tabM T }) : FnOkN g.P g.w g.K g.mg g.base CX0 (k + 1) n f fd ps (spT g.K T R) where
  len := fun vs H Q E ⟨S0, m, ds, A, e, _, _, ra, ⟨_, r, hR, _⟩, _⟩ => by rw [ra.len]; exact len ds r hR
  run := fun A outer s H args us vs Q E hr e0 ht hb rv ⟨S0, m, ds, R', e, hz, hp, ra, ⟨em, r, hR, eR⟩, q0⟩ => by
    subst em eR
    refine fn_rawC (k := k) (n := n) F S (by rw [ra.len]; exact len ds r hR) hr e0 hb rv ht fun s1 hr1 I1 t1 => ?_
    have o : OfC g ⟨k, N, defScope st, fun _ => true, true, none⟩ c q (cxOf CX0 g.P g.w g.K g.mg g.base N qual (defScope st) f (.ref c) A outer s H E).nox := ⟨⟨rfl, rfl, rfl, rfl, rfl, rfl, rfl, fun _ _ => rfl, fun _ => rfl, fun _ => hr1, hr1.un, fun _ => PassesOwn.never, (fun _ _ _ h => by cases h)⟩, rfl, hq⟩
    refine wpAny_mono ((USsC.sn (n := n) o (defBody st)).run [] s1 _ H { nx := fun _ H' => Q .non H', rt := Q } t1 (I1.wish (fun _ _ => False)) ?_) (fun _ _ z => z.unwish) fun _ _ z => z.elim
    refine body ds r hR S0 (hidM (tabM T) H) S0 _ S0 H _ ⟨by rw [mix_hid]; exact Go.rf e, Ex.rf _, en_start ra, ⟨fun q y => ⟨hidM_in y, (hz q y).1, (hz q y).1, (hz q y).2⟩, hp⟩⟩ ⟨fun _ _ _ _ _ z => z.elim, fun d m' v S1 H1 z r1 => ?_, fun _ _ _ _ _ z => z.elim, fun _ _ _ _ _ z => z.elim⟩
    obtain ⟨rfl, rfl⟩ := z
    exact q0 d _ v S1 H1 ⟨rfl, rfl⟩ (bk_of r1.go r1.md) r1.rp
/-- such a def, known -/
structure FnT (g : Gb) (k n : Nat) (T : List (Addr × Str)) (x : Str) (R : List DV → DV → Prop) : Prop where
  ex : ∃ f fd ps, FnOkN g.P g.w g.K g.mg g.base CX0 k n f fd ps (spT g.K T R) ∧ g.mg x = some (.ref f) ∧ PySem.W.keepIn g.K (.ref f) = true ∧ Binds g.K fd ps []
theorem evu_callT {K : PySem.W.Frag} {T : List (Addr × Str)} {R : List DV → DV → Prop} {ta : TA} {ρ : Rho} {ds : List DV} {r : DV} (ha : EvA K ta ρ ds) (hR : R ds r) : EvU K (tCall (spT K T R) [] E0 ta) ρ (tabM T) r (tabM T) := fun S0 H0 B σ S H s Q q =>
  ha _ σ S H s.g.sub s.n _ fun vs S1 H1 g1 r1 => by
    have s1 := s.go g1
    refine ⟨S1, tabM T, ds, _, s1.g.sub, fun q y => ⟨(s1.d.z q y).2.2.1, (s1.d.z q y).2.2.2⟩, s1.d.p, by rw [List.append_nil]; exact r1, ⟨rfl, r, hR, rfl⟩, fun d m' v S2 H2 hR b r2 => ?_⟩
    obtain ⟨rfl, rfl⟩ := hR
    exact q v S2 H2 (s1.back b) (g1.s.tr b.s) r2
theorem dec_call {g : Gb} {k n : Nat} {l : Lc} {c : Addr} {q x : Str} {T : List (Addr × Str)} {R : List DV → DV → Prop} {ρ : Rho} {e : Expr} {es : List Expr} {ds : List DV} {r : DV} {p pos : Pos} (F : FnT g k n T x R) (ha : DA g l (e :: es) ρ ds) (hR : R ds r) (hk : k ≤ l.k := by decide) (hg : GlN l x := by rfl) (hdb : (x == ("__debug__" : Str)) = false := by decide) (he : ∀ env, starEach (e :: es) env = (false, eval e env) :: starEach es env := by intro _; rfl) (hpl : ∀ env, (backTo pos (starEach es env)).any (·.1) = false := by intro _; rfl) (hcl : l.cb = true := by rfl) :
    DEC g n l c q (.Call (.Name x p) (e :: es) [] pos) ρ (tabM T) r (tabM T) := by
  obtain ⟨f, fd, ps, ok, hm, kp, hb⟩ := F.ex
  exact .by (tCall (spT g.K T R) [] E0 (UA g l (e :: es))) (fun X w => have o := w.o; pn_call (CX := CX0) (k := k) (by rw [o.prog, o.w, o.K, o.mg, o.base]; exact ok) ((o.room hcl).mono hk) (o.gl hg) (by rw [o.mg]; exact hm) (by rw [o.K]; exact kp) (by rw [o.K]; exact hb) pass0 (UA.pa o _) hdb (he _) (hpl _)) (evu_callT ha hR)
end SP

/-! A law's call where the law makes lambdas by way of others: tables of code objects, and a bound on the identities. -/
namespace PD
open PySem PySem.Spec PyProof.Rows L2 LamX
/-- what is tracked at the beginning: the script, where it is none of the module's own, and the tables -/
def tabH (K : PySem.W.Frag) (ts : List Addr) (a : Addr) (vs : List Value) (ns : List Int) : Hp := fun b => if b ∈ ts then some (.tbl #[]) else scrH K a vs ns b
theorem law_callTN {P : Program} {w : World} {K : PySem.W.Frag} {mg mb : Str → Option Value} {k m : Nat} {fa a : Addr} {cs : List (Addr × Addr)} {fd : FuncData} {x : Str} {sp : Sp} {s₁ : Shared} {vs : List Value} {ns : List Int} (KX : K.In s₁.heap) (hns : s₁.heap.Ns mainGlobals mg)
    (hb : s₁.heap.Ns builtinsNs mb) (hbb : ∀ x : Str, x ≠ "__name__" → mb x = bootBuiltins x) (hlim : s₁.heap.NoLimit) (hg : s₁.gens = #[]) (hT : ∀ p ∈ cs, s₁.heap.get? p.2 = some noObj) (nT : ∀ p ∈ cs, K.lookup p.2 = none) (hC : ∀ p ∈ cs, PySem.W.codeHdIn K p.1 p.2 = true)
    (hbm : ∃ (bm : Addr) (ob : Obj), mg "__builtins__" = some (.ref bm) ∧ bm ≠ builtinsNs ∧ s₁.heap.get? bm = some ob ∧ ob.cls = .type "module" ∧ ob.dict = some builtinsNs ∧ ob.data = .plain)
    (ha : s₁.heap.get? a = some { cls := .type "list", data := .seq vs.toArray }) (hi : IntsAre vs ns) (hl : ns.length ≤ sizeLine) (hr : Room k callerA) (ht : m ≤ s₁.toks) (F : ∀ base : Heap, K.In base → base.Ns mainGlobals mg → (∀ p ∈ cs, TabB base mg p.1 p.2) → FnOkN P w K mg base CX0 k m fa fd [x] sp)
    (hbind : ∀ (s : Shared) (u : Value), BindsTo s fd ⟨[u], []⟩ [(x, u)]) (hsp : ∀ H : Hp, (∀ p ∈ cs, H p.2 = some (.tbl #[])) → a ∉ cs.map (·.2) → SqL K H a (ns.map V.int) → sp [.ref a] H (fun v _ => v = .bl true) fun _ _ _ => False) :
    codeAny (model P w) callerA (.call (.ref fa) ⟨[.ref a], []⟩) (fun r s' => r = .ok (.ret (.bool true)) ∧ OldK s₁.heap s'.heap ∧ s'.os = s₁.os ∧ AllBare s'.gens) s₁ := by
  have rv := vals_ints hi
  have lenV := hi.length
  generalize hts : cs.map (·.2) = ts at hsp
  have inT : ∀ {b : Addr}, b ∈ ts → s₁.heap.get? b = some noObj := fun {b} z => by
    rw [← hts] at z
    obtain ⟨p, hp, rfl⟩ := List.mem_map.mp z
    exact hT p hp
  have memT : ∀ p ∈ cs, p.2 ∈ ts := fun p hp => hts ▸ List.mem_map_of_mem hp
  have noT : ∀ {b : Addr} {o : Obj}, s₁.heap.get? b = some o → o ≠ noObj → b ∉ ts := fun {b o} e n z => n (Option.some.inj (e.symm.trans (inT z)))
  have aT : a ∉ ts := noT ha fun z => by cases (show Data.seq vs.toArray _ = Data.fields #[] from congrArg Obj.data z)
  generalize hH : tabH K ts a vs ns = H
  have Hin : ∀ {b : Addr}, b ∈ ts → H b = some (.tbl #[]) := fun z => by rw [← hH]; exact if_pos z
  have Hout : ∀ {b : Addr}, b ∉ ts → H b = scrH K a vs ns b := fun z => by rw [← hH]; exact if_neg z
  have two : ∀ {b : Addr} {u : HO}, H b = some u → (b ∈ ts ∧ u = .tbl #[]) ∨ (b = a ∧ K.lookup a = none ∧ u = .frz { cls := .type "list", data := .seq vs.toArray } (.lst (ns.map V.int))) := fun {b u} e => by
    by_cases z : b ∈ ts
    · rw [Hin z] at e; cases e; exact .inl ⟨z, rfl⟩
    · rw [Hout z] at e; exact .inr (scrH_some e)
  have hS : SqL K H a (ns.map V.int) := by
    cases hk : K.lookup a with
    | some o =>
      have e := KX a o hk
      rw [ha] at e; cases e
      exact .inr ⟨_, vs.toArray, _, hk, rfl, rfl, rfl, by rw [List.size_toArray, lenV]; exact hl, by simpa using rv⟩
    | none => exact .inl (.inr ⟨_, by rw [Hout aT]; unfold scrH; rw [if_pos ⟨rfl, by rw [hk]; rfl⟩]⟩)
  have hok : HOk P w H s₁.heap := fun b u e => by
    rcases two e with ⟨z, rfl⟩ | ⟨rfl, _, rfl⟩
    · exact inT z
    · exact ⟨ha, by rw [List.length_map]; exact hl, vs, _, rv, ha⟩
  have hid : ∀ {b : Addr} {o : Obj}, s₁.heap.get? b = some o → H b = none → (hidT s₁.heap H).get? b = some o := fun e n => hidT_get e n
  -- neither a list nor a table
  have free : ∀ {b : Addr} {o : Obj}, s₁.heap.get? b = some o → o ≠ noObj → (∀ us n, o.data ≠ .seq us n) → H b = none := fun {b o} e n1 n2 => by
    cases q : H b with
    | none => rfl
    | some u =>
      rcases two q with ⟨z, _⟩ | ⟨rfl, _, _⟩
      · exact absurd z (noT e n1)
      · rw [ha] at e; cases e
        exact absurd rfl (n2 vs.toArray _)
  have hNs : ∀ {b : Addr} {f : Str → Option Value}, s₁.heap.Ns b f → (hidT s₁.heap H).Ns b f := fun ⟨o, es, ep, e, d, r⟩ => ⟨o, es, ep, hid e (free e (fun z => by rw [z] at d; cases d) fun us n z => by rw [z] at d; cases d), d, r⟩
  have hKb : K.In (hidT s₁.heap H) := fun b o e => hid (KX b o e) (by
    cases q : H b with
    | none => rfl
    | some u =>
      rcases two q with ⟨z, _⟩ | ⟨rfl, k0, _⟩
      · rw [← hts] at z
        obtain ⟨p, hp, rfl⟩ := List.mem_map.mp z
        rw [nT p hp] at e; cases e
      · rw [k0] at e; cases e)
  have TB : ∀ p ∈ cs, TabB (hidT s₁.heap H) mg p.1 p.2 := fun p hp => by
    obtain ⟨bm, ob, b1, b2, b3, b4, b5, b6⟩ := hbm
    have no6 : ob ≠ noObj := fun z => by rw [z] at b6; cases b6
    refine ⟨PySem.W.codeHd_of_K hKb (hC p hp), ⟨bm, ob, b1, b2, fun z => ?_, fun z => noT b3 no6 (by rw [z]; exact memT p hp), hid b3 (free b3 no6 fun us n z => by rw [z] at b6; cases b6), b4, b5, b6⟩, fun z => ?_⟩
    · obtain ⟨o, es, ep, e, d, _⟩ := hns
      rw [z, e] at b3; cases b3
      rw [d] at b6; cases b6
    · obtain ⟨o, es, ep, e, d, _⟩ := hns
      rw [z, hT p hp] at e; cases e
      cases d
  have e0 : Env0 P w K mg (hidT s₁.heap H) callerA [] s₁ H :=
    ⟨rfl, ⟨hKb, hNs hns, ⟨mb, hNs hb, hbb⟩, let ⟨mc, h1, h2⟩ := hlim; ⟨mc, hNs h1, h2⟩⟩, fun b o e => of_hidT e, Nat.le_of_eq (hidT_size _ _), trivial, fun b hb => (nomatch (show b ∈ ([] : List Addr) from hb)), hok, .of_eq hg⟩
  refine codeAny_mono ((F _ hKb (hNs hns) TB).run callerA [] s₁ H ⟨[.ref a], []⟩ [.ref a] [.ref a] _ _ hr e0 ht (hbind s₁ (.ref a)) (.cons rfl .nil) (hsp H (fun p hp => Hin (memT p hp)) aT hS)) fun r s' h => ?_
  cases r with
  | error e => exact False.elim h
  | ok fl =>
    cases fl with
    | next => exact False.elim h
    | brk => exact False.elim h
    | cont => exact False.elim h
    | ret u =>
      obtain ⟨v, H', os, bare, un, hok', rv', q⟩ := h
      obtain rfl : v = .bl true := q
      obtain rfl : u = Value.bool true := rv'
      have stay : ∀ b o, b ∉ ts → s₁.heap.get? b = some o → s'.heap.get? b = some o := fun b o z e => by
        cases q : H b with
        | none => exact un.keep b o e q (fun y => nomatch (show b ∈ ([] : List Addr) from y)) (by simp)
        | some u =>
          rcases two q with ⟨y, _⟩ | ⟨rfl, _, rfl⟩
          · exact absurd y z
          · have e2 := (hok' b _ (un.frzs b _ _ q)).1
            rw [ha] at e; cases e
            exact e2
      have grow : ∀ p ∈ cs, ∃ more : Array Value, s'.heap.get? p.2 = some { cls := .none, data := .fields more } := fun p hp => by
        obtain ⟨more, y⟩ := un.tbls p.2 #[] (Hin (memT p hp))
        exact ⟨_, hok' p.2 _ y⟩
      refine ⟨rfl, ⟨fun b o e => ?_, fun b o e => ?_⟩, os, bare⟩
      · by_cases z : b ∈ ts
        · have eo : o = noObj := Option.some.inj (e.symm.trans (inT z))
          rw [← hts] at z
          obtain ⟨p, hp, rfl⟩ := List.mem_map.mp z
          obtain ⟨more, y⟩ := grow p hp
          subst eo
          have tc := ((PySem.W.codeHd_of_K KX (hC p hp)).tab (hT p hp)).isCodeTable
          exact .inr (.inl ⟨tc, rfl, #[], more, rfl, y.trans (by rw [Array.empty_append])⟩)
        · exact .inl (stay b o z e)
      · by_cases z : b ∈ ts
        · rw [← hts] at z
          obtain ⟨p, hp, rfl⟩ := List.mem_map.mp z
          exact let ⟨more, y⟩ := grow p hp; ⟨_, y⟩
        · exact ⟨o, stay b o z e⟩
end PD

/-! The top by one run, anything looked at behind it. -/
namespace PD
open PySem PySem.W PySem.W.X PySem.Calls PyProof.Rows HandSHeadRun
theorem head_X {α : Type} {obs : Shared → α} {val : World → α} {ob : SharedT → α} {r : OpenRow} {q : Program} {M : Nat} {loose : List PySem.Str} {d : DefRec} {kwd : List (PySem.Str × PySem.Expr)} (ho : ∀ s : SharedT, ob s = obs s.abs) (e : opening r.prog = plainProg r.prog.main.scope.names) (f : ∀ s, fenceModules? r.prog s = some s) (run : ∀ w, RunX r q val ob M loose w)
    (h1 : defOf q r.name = some (d, kwd)) (h2 : r.prog.theDef r.name = some (d.params, d.body, d.scope)) (h3 : kwWritten? d.params.kwonlyargs d.params.kw_defaults = some kwd) (h4 : (!r.writes || r.records.isEmpty) = true) (h5 : r.wellSaid = true) (h6 : (chainsOk q && opensWell r.prog && (frees r.toRowW && r.within.isEmpty)) = true) (h7 : r.prog.bare) (h8 : r.toRowW.promised)
    (call : WalkX q loose (XL q []) obs val r.toRowW d kwd fun f vs => PySem.call f vs) : r.Holds := by
  have left : LeftO r.prog q loose (fun s => xlAt q [] s && recOk r.toRowW.records s) obs val (M + 600) true := by
    refine left_one (M := M) e (Nat.ble_eq_true_of_le (by omega)) f (Nat.ble_eq_true_of_le (by omega)) fun w os => ?_
    have z := run w os
    rw [show ob = fun s => obs s.abs from funext ho] at z
    simp only [endQ_eq, seenQ_eq]
    exact z
  exact holds_openX left (fun s z => xl_of s (Bool.and_eq_true_iff.mp z).1) XL.keeps h1 h2 h3 (fun s z => recFacts_of (Bool.and_eq_true_iff.mp z).2) h4 h5 h6 h7 h8 call
end PD

/-! The heap as a part, but for some addresses. -/
namespace PD
open PySem PySem.Spec PyProof.Rows L2 LamX
theorem wholeK_at {ts : List Addr} {g : Addr → Option Obj} : ∀ {as : List Addr} {a : Addr} {o : Obj}, (as.filterMap fun a => if ts.contains a then none else (g a).map fun o => (a, o)).lookup a = some o → g a = some o ∧ a ∉ ts
  | [], a, o, h => by cases h
  | b :: as, a, o, h => by
    rw [List.filterMap_cons] at h
    by_cases c : ts.contains b = true
    · rw [if_pos c] at h
      exact wholeK_at h
    · rw [if_neg c] at h
      cases q : g b with
      | none =>
        rw [q] at h
        exact wholeK_at h
      | some u =>
        rw [q] at h
        have h' : List.lookup a ((b, u) :: (as.filterMap fun a => if ts.contains a then none else (g a).map fun o => (a, o))) = some o := h
        rw [List.lookup_cons] at h'
        cases e : (a == b) with
        | true =>
          rw [e] at h'
          have eo : u = o := Option.some.inj h'
          rw [beq_iff_eq.mp e, q, eo]
          exact ⟨rfl, fun z => c (List.contains_iff_mem.mpr z)⟩
        | false =>
          rw [e] at h'
          exact wholeK_at h'
theorem wholeK_in {ts : List Addr} {n : Nat} {h : Heap} : (wholeK ts n h.get?).In h := fun a o e => (wholeK_at e).1
theorem wholeK_no {ts : List Addr} {n : Nat} {g : Addr → Option Obj} {a : Addr} (h : a ∈ ts) : (wholeK ts n g).lookup a = none := by
  cases e : (wholeK ts n g).lookup a with
  | none => rfl
  | some o => exact absurd h (wholeK_at e).2
end PD

/-! Floors. -/
namespace SP
open PySem PySem.Spec PyProof.Rows L2 PD
variable {g : Gb} {CG : Addr}
section
variable {kS : Nat} {gs : List (Str × DV)} {N : DV → Prop} {st : DV → List Stp} {start : DV} {least : Int} {RS : List DV → DV → Prop}
end
end SP

/-! == of dicts with keys of several kinds. -/
namespace MX
open PySem PySem.W
open Sem (wp)
section
variable {prog : Program} {w : World} {A : Around} {E : Value → Shared → Prop} {s : Shared}
end
end MX
namespace PD
open PySem PySem.Spec PyProof.Rows L2 MX PySem.W
section
variable {g : Gb} {l : Lc} {ρ : Rho} {a b : Expr} {pos : Pos} {fl fl2 : List (DV × Int)}
end
end PD

/-! Plan, NoPlan: made, compared. -/
namespace PD
open PySem PySem.Spec PyProof.Rows L2
section
variable {g : Gb} {n : Nat} {l : Lc} {ρ : Rho} {e a b : Expr} {es : List Expr} {ds : List DV} {x : Str} {p p2 pos : Pos} {k : Nat} {C C2 : Addr} {gs hs : List (Str × DV)}
end
/-! == of instances of two classes -/
section
variable {g : Gb} {l : Lc} {ρ : Rho} {a b : Expr} {pos : Pos} {C C2 : Addr} {gs hs : List (Str × DV)}
end
end PD
namespace SP
open PySem PySem.Spec PyProof.Rows L2 PD
variable {g : Gb} {CP CN : Addr} {n : Nat}
end SP
namespace SP
open PySem PySem.Spec PyProof.Rows L2 PD
variable {g : Gb} {CP CN : Addr} {n : Nat}
end SP

/-! x in l, instances with an own ==. -/
namespace GQ
open PySem PySem.SeqAt
open PySem.AutoSeq1 (wpAny_loadPart')
open PySem.MeetsSeq PySem.MeetsSeq2 PySem.MeetsSeq3 SeqRoads2
section
variable {prog : Program} {w : World} {A : Around} {R : Result → Shared → Prop}
end
end GQ
namespace PD
open PySem PySem.Spec PyProof.Rows L2
section
variable {X : Cx} {pins : List (Addr × Obj)} {σ : L2.St} {H S : Hp} {s : Shared}
end
end PD

/-! What a def gives is new, where nothing of its kind was handed in. -/
namespace PD
open PySem PySem.Spec PyProof.Rows L2
section
variable {K : PySem.W.Frag} {S S2 : Hp}
end
section
variable {K : PySem.W.Frag} {ρ : Rho} {te : TE} {ta tx : TA} {ds es : List DV} {d : DV} {C : Addr} {gs : List (Str × DV)} {n : Str}
end
end PD

/-! What is new is changed and let go. -/
namespace PD
open PySem PySem.Spec PyProof.Rows L2 MX PySem.W
section
variable {X : Cx} {n : Nat} {e o x : Expr} {t te : TE} {ta : TA} {apos cpos pos : Pos} {r : V → List V → Hp → VK → Prop} {name : Str} {T id : String}
end
section
variable {K : PySem.W.Frag} {ρ : Rho} {te : TE} {es : List DV} {d : DV} {E : Po} {C : Addr} {gs : List (Str × DV)} {n : Str} {w : World} {ks vs : List DV}
end
end PD
namespace PD
open PySem PySem.Spec PyProof.Rows L2
section
variable {g : Gb} {n k : Nat} {l : Lc} {ρ : Rho} {e o x : Expr} {es : List Expr} {ds xs ks vs : List DV} {d dx : DV} {nm f : Str} {p pos apos cpos : Pos} {C : Addr} {gs : List (Str × DV)} {R : List DV → DV → Prop} {E : Po}
end
end PD

/-! Things that a def makes anew, as such; an __init__ whose last attribute is one. -/
namespace PD
open PySem PySem.Spec PyProof.Rows L2
section
variable {K : PySem.W.Frag} {w : World} {ρ : Rho} {te : TE} {ds : List DV} {d : DV}
end
section
variable {g : Gb} {n : Nat} {l : Lc} {ρ : Rho} {C : Addr} {gs gs' gs2 : List (Str × DV)} {e : Expr} {f nm fn : Str} {d : DV} {p1 p2 p3 : Pos} {st : Stmt} {rest : List Stmt} {te : TE}
end
end PD

/-! A search that has come to its end, as a plain fact. -/
namespace PD
open PySem PySem.Spec PyProof.Rows L2
def DV.isN : DV → Bool
  | .non => true
  | _ => false
theorem rp_isN {K : PySem.W.Frag} {S : Hp} {v : V} {d : DV} (r : Rp K S v d) : decide (v = .non) = d.isN := by
  cases r <;> first | rfl | exact decide_eq_false (fun z => by cases z)
section
variable {g : Gb} {l : Lc} {ρ : Rho} {a : Expr} {pos p : Pos} {d : DV} {j : Nat}
theorem od_isNn {K : PySem.W.Frag} : OpD K (fun x y H Q => y = .non ∧ Q (.bl (decide (x = .non))) H) d .non (.bl d.isN) := fun S H x y e r1 r2 Q q => by
  cases r2
  exact ⟨rfl, by rw [rp_isN r1]; exact q _ S H (Go.rf e) (.bl _)⟩
theorem dt_isN (h : DE g l a ρ d) : DT g l (.Compare a [.Is] [.Constant .none j p] pos) ρ d.isN := dt_cmp (fun X o => op_isN) od_isNn h de_non (nomark _)
end
end PD
namespace SP
open PySem PySem.Spec PyProof.Rows L2 PD
end SP

/-! plan. -/
namespace PD
open PySem PySem.Spec PyProof.Rows L2
end PD
namespace SP
open PySem PySem.Spec PyProof.Rows L2 PD
variable {g : Gb} {C M CS CG CP CN : Addr} {tG : Tok} {n : Nat}
end SP

namespace SP
open PySem PySem.Spec PyProof.Rows L2 PD
variable {g : Gb} {C : Addr}
/-- a valid file's parts -/
structure VF (ls : Str) (ps : List Str) (od : List Nat) (pp op : Int) : Prop where
  v : VS ls ps od
  pp : 1 ≤ pp ∧ pp ≤ 5
  op : 1 ≤ op ∧ op ≤ 5
theorem fit_wr {ls : Str} {n : Nat} {w : Wr} (h : VW ls n w) : fit w.d = true := by
  cases w with
  | piece b p =>
    have h1 := wordOk_len h.2
    show fit (.tup [.str "piece", .int b, .str p]) = true
    rw [fit, fits, fits, fits, fits, fit, fit, fit, decide_eq_true (show ([.str "piece", .int b, .str p] : List DV).length ≤ 100000 from (by decide : 3 ≤ 100000)), decide_eq_true (show ("piece" : Str).length ≤ 100000 by decide +kernel), decide_eq_true (show p.length ≤ 100000 by omega)]
    rfl
  | order o =>
    have h1 := h.1
    show fit (.tup [.str "order", .tup (odD o)]) = true
    rw [fit, fits, fits, fits, fit, fit_odD (by omega), decide_eq_true (show ([.str "order", .tup (odD o)] : List DV).length ≤ 100000 from (by decide : 2 ≤ 100000)), decide_eq_true (show ("order" : Str).length ≤ 100000 by decide +kernel)]
    rfl
theorem scIsWrite : FnScope ["file", "value"] ["file", "value"] (defScope sIsWrite) := ⟨rfl, rfl, rfl, by decide +kernel, rfl, by decide +kernel, by decide +kernel⟩
def R_iswr (C : Addr) : List DV → DV → Prop := fun ds d => ∃ ls ps od pp op tn v, VS ls ps od ∧ fit v = true ∧ ds = [fileD C ls ps od pp op tn, v] ∧ d = .bl (isWr ls ps od v)
theorem ok_iswr (L : Fl g C) (P : Fp g C) (Ck : Fn g 1 "check_file" (R_cfile C)) (St : Fn g 3 "file_state" (R_fstate C)) (Iw : Fn g 4 "is_state_write" R_swrite) {f : Addr} {fd : FuncData} (F : Fun g.K "is_write" "is_write" sIsWrite f fd) : FnOk g.P g.w g.K g.mg g.base CX0 5 f fd ["file", "value"] (spR g.K (R_iswr C)) := by
  refine fn_ok F scIsWrite (fun ds d ⟨ls, ps, od, pp, op, tn, x, _, _, e, _⟩ => by rw [e]; rfl) fun ds d ⟨ls, ps, od, pp, op, tn, x, v, hf, e, ed⟩ => ?_
  subst e ed
  exact dss_cons (ds_ex (de_call Ck (da_cons (de_v 0) da_nil) ⟨_, rfl, rfl⟩) (dss_one (ds_ret (de_call Iw (da_cons (de_ls L P (de_v 0)) (da_cons (de_call St (da_cons (de_v 0) da_nil) ⟨ls, ps, od, pp, op, tn, rfl, rfl⟩) (da_cons (de_v 1) da_nil))) ⟨ls, ps, od, x, v.hps, hf, rfl, rfl⟩) rfl)))
theorem scCheckWrite : FnScope ["file", "write"] ["file", "write"] (defScope sCheckWrite) := ⟨rfl, rfl, rfl, by decide +kernel, rfl, by decide +kernel, by decide +kernel⟩
def R_cwr (C : Addr) : List DV → DV → Prop := fun ds d => ∃ ls ps od pp op tn w, VS ls ps od ∧ VW ls ps.length w ∧ chg ps od w = true ∧ ds = [fileD C ls ps od pp op tn, Wr.d w] ∧ d = .non
theorem ok_cwr (L : Fl g C) (P : Fp g C) (St : Fn g 3 "file_state" (R_fstate C)) (Iw : Fn g 4 "is_state_write" R_swrite) {f : Addr} {fd : FuncData} (F : Fun g.K "check_write" "check_write" sCheckWrite f fd) : FnOk g.P g.w g.K g.mg g.base CX0 5 f fd ["file", "write"] (spR g.K (R_cwr C)) := by
  refine fn_ok F scCheckWrite (fun ds d ⟨ls, ps, od, pp, op, tn, w, _, _, _, e, _⟩ => by rw [e]; rfl) fun ds d ⟨ls, ps, od, pp, op, tn, w, v, h, hc, e, ed⟩ => ?_
  subst e ed
  refine dss_one (ds_if (x := false) (DT.is (dt_not (dt_e (de_call Iw (da_cons (de_ls L P (de_v 0)) (da_cons (de_call St (da_cons (de_v 0) da_nil) ⟨ls, ps, od, pp, op, tn, rfl, rfl⟩) (da_cons (de_v 1) da_nil))) ⟨ls, ps, od, w.d, v.hps, fit_wr h, rfl, rfl⟩))) ?_) (fun h => by cases h) fun _ => dss_nil rfl)
  rw [isWr_d h, hc]
  rfl
theorem scAfter : FnScope ["file", "write"] ["file", "write"] (defScope sAfter) := ⟨rfl, rfl, rfl, by decide +kernel, rfl, by decide +kernel, by decide +kernel⟩
def R_after (C : Addr) : List DV → DV → Prop := fun ds d => ∃ ls ps od pp op tn w, VF ls ps od pp op ∧ VW ls ps.length w ∧ chg ps od w = true ∧ ds = [fileD C ls ps od pp op tn, Wr.d w] ∧ d = fileD C ls (afterP ps w) (afterO od w) pp op tn
theorem ok_after (Ck : Fn g 1 "check_file" (R_cfile C)) (Cw : Fn g 5 "check_write" (R_cwr C)) (St : Fn g 3 "file_state" (R_fstate C)) (Af : Fn g 2 "state_after" R_safter) (At : Fn g 6 "file_at" (R_fat C)) {f : Addr} {fd : FuncData} (F : Fun g.K "after" "after" sAfter f fd) : FnOk g.P g.w g.K g.mg g.base CX0 7 f fd ["file", "write"] (spR g.K (R_after C)) := by
  refine fn_ok F scAfter (fun ds d ⟨ls, ps, od, pp, op, tn, w, _, _, _, e, _⟩ => by rw [e]; rfl) fun ds d ⟨ls, ps, od, pp, op, tn, w, v, h, hc, e, ed⟩ => ?_
  subst e ed
  exact dss_cons (ds_ex (de_call Ck (da_cons (de_v 0) da_nil) ⟨_, rfl, rfl⟩) (dss_cons (ds_ex (de_call Cw (da_cons (de_v 0) (da_cons (de_v 1) da_nil)) ⟨ls, ps, od, pp, op, tn, w, v.v, h, hc, rfl, rfl⟩) (dss_one (ds_ret (de_call At (da_cons (de_v 0) (da_cons (de_call Af (da_cons (de_call St (da_cons (de_v 0) da_nil) ⟨ls, ps, od, pp, op, tn, rfl, rfl⟩) (da_cons (de_v 1) da_nil)) ⟨ps, od, w, h.ok, v.v.hps, rfl, rfl⟩) da_nil)) ⟨ls, ps, od, _, _, pp, op, tn, v.v.after h, v.pp, v.op, rfl, rfl⟩) rfl)))))
theorem scSafe : FnScope ["file", "write", "text"] ["file", "write", "text"] (defScope sSafe) := ⟨rfl, rfl, rfl, by decide +kernel, rfl, by decide +kernel, by decide +kernel⟩
def R_safe (C : Addr) : List DV → DV → Prop := fun ds d => ∃ ls ps od pp op tn w t, VS ls ps od ∧ VW ls ps.length w ∧ chg ps od w = true ∧ wordOk ls 6 t = true ∧ ds = [fileD C ls ps od pp op tn, Wr.d w, .str t] ∧ d = .bl (safeOf ps od w tn t)
theorem ok_safe (L : Fl g C) (P : Fp g C) (Ck : Fn g 1 "check_file" (R_cfile C)) (Cg : Fn g 3 "check_goal" (R_cgoal C)) (Cw : Fn g 5 "check_write" (R_cwr C)) (St : Fn g 3 "file_state" (R_fstate C)) (Is : Fn g 4 "is_safe_write" R_issafe) {f : Addr} {fd : FuncData} (F : Fun g.K "is_safe" "is_safe" sSafe f fd) : FnOk g.P g.w g.K g.mg g.base CX0 6 f fd ["file", "write", "text"] (spR g.K (R_safe C)) := by
  refine fn_ok F scSafe (fun ds d ⟨ls, ps, od, pp, op, tn, w, t, _, _, _, _, e, _⟩ => by rw [e]; rfl) fun ds d ⟨ls, ps, od, pp, op, tn, w, t, v, h, hc, ht, e, ed⟩ => ?_
  subst e ed
  exact dss_cons (ds_ex (de_call Ck (da_cons (de_v 0) da_nil) ⟨_, rfl, rfl⟩) (dss_cons (ds_ex (de_call Cg (da_cons (de_v 0) (da_cons (de_v 2) da_nil)) ⟨ls, ps, od, pp, op, tn, t, ht, rfl, rfl⟩) (dss_cons (ds_ex (de_call Cw (da_cons (de_v 0) (da_cons (de_v 1) da_nil)) ⟨ls, ps, od, pp, op, tn, w, v, h, hc, rfl, rfl⟩)
    (dss_one (ds_ret (de_call Is (da_cons (de_call St (da_cons (de_v 0) da_nil) ⟨ls, ps, od, pp, op, tn, rfl, rfl⟩) (da_cons (de_v 1) (da_cons (de_tn L P (de_v 0)) (da_cons (de_v 2) da_nil)))) ⟨ls, ps, od, w, tn, t, v, h, rfl, rfl⟩) rfl)))))))
end SP

namespace SP
open PySem PySem.Spec PyProof.Rows L2 PD
variable {g : Gb} {C : Addr}
end SP

/-! changed_file, is_change, Plan.shows. -/
namespace PD
open PySem PySem.Spec PyProof.Rows L2
section
variable {g : Gb} {l : Lc} {ρ : Rho} {a : Expr} {pos p : Pos} {d : DV} {j : Nat}
end
end PD
namespace SP
open PySem PySem.Spec PyProof.Rows L2 PD
variable {g : Gb} {C M CS CG CP CN : Addr} {tG : Tok} {n : Nat}
/-! Plan.shows -/
end SP

/-! x in l, data of any depth. -/
namespace PD
open PySem PySem.Spec PyProof.Rows L2
section
variable {g : Gb} {l : Lc} {ρ : Rho} {a b : Expr} {pos : Pos} {d : DV} {ds : List DV} {K : PySem.W.Frag}
end
end PD

/-! sorted(l), l a list of data that are alike. -/
namespace PD
open PySem PySem.Spec PyProof.Rows L2
section
variable {g : Gb} {l : Lc} {ρ : Rho} {e : Expr} {ds : List DV} {p pos : Pos}
end
end PD

/-! One dict of one's own, from keys to lists that stay as they are. -/
namespace PD
open PySem PySem.Spec PyProof.Rows L2
section
variable {K : PySem.W.Frag} {W : World} {ρ : Rho} {tk tv : TE} {d : DV} {xs : List DV} {D : Addr} {cs : Cs2} {E : Pm} {i : Nat} {m : Mo}
end
section
variable {g : Gb} {l : Lc} {ρ : Rho} {a b e1 e2 k v : Expr} {d : DV} {xs is js : List DV} {D : Addr} {cs : Cs2} {E : Pm} {pos p1 p3 p4 : Pos} {nm : Str}
end
end PD

/-! Plan, NoPlan made of a list, a dict of one's own. -/
namespace PD
open PySem PySem.Spec PyProof.Rows L2
section
variable {K : PySem.W.Frag} {w : World} {ρ : Rho} {m : Mo} {C : Addr} {fn : Str} {R : List DV → List (Str × DV) → Prop} {xs : List DV} {i j : Nat}
end
end PD
namespace SP
open PySem PySem.Spec PyProof.Rows L2 PD
variable {g : Gb} {CP CN : Addr} {n : Nat}
end SP
namespace PD
open PySem PySem.Spec PyProof.Rows L2
section
variable {g : Gb} {n : Nat} {l : Lc} {ρ : Rho} {C : Addr} {gs : List (Str × DV)} {e kx vx tg iter : Expr} {ifs : List Expr} {f nm : Str} {d : DV} {ds : List DV} {p1 p2 p3 pos : Pos} {scope : Scope} {own : List (Str × Nat)}
end
end PD
namespace SP
open PySem PySem.Spec PyProof.Rows L2 PD
variable {g : Gb} {CP CN : Addr} {n : Nat}
end SP

/-! A list and a dict of one's own handed in, then changed. -/
namespace PD
open PySem PySem.Spec PyProof.Rows L2
section
variable {K : PySem.W.Frag} {w : World} {ρ : Rho} {m : Mo} {C D : Addr} {f1 fn : Str} {R : List DV → List (Str × DV) → Prop} {xs : List DV} {i j k : Nat} {fl : Fl2} {W d : DV} {E : Pm}
end
section
variable {K : PySem.W.Frag} {w : World} {ρ : Rho} {m m1 m2 : Mo} {D : Addr} {xs : List DV} {i j k : Nat} {fl : Fl2} {d d1 d2 dT : DV} {c : Int} {E : Pm} {te1 te2 teL teT tk tv : TE} {ts : TS}
end
end PD

/-! An instance made with some keywords, defaults between them. -/
namespace PD
open PySem PySem.Spec PyProof.Rows L2
section
variable {g : Gb} {l : Lc} {ρ : Rho} {e : Expr} {es : List Expr} {pos : Pos} {ds es' : List DV} {d : DV} {C : Addr} {gs : List (Str × DV)} {n : Str} {kws : List Keyword}
end
end PD
namespace PD
open PySem PySem.Spec PyProof.Rows L2
section
variable {K : PySem.W.Frag} {ρ : Rho} {te ta tb : TE} {tx tr : TA} {ds : List DV} {d : DV} {C : Addr} {gs : Fds} {hss : List Fds} {eqf : Fds → Bool} {R : List DV → DV → Prop} {R' : List DV → List (Str × DV) → Prop}
end
section
variable {g : Gb} {l : Lc} {ρ : Rho} {a b e : Expr} {es : List Expr} {ds : List DV} {d : DV} {C : Addr} {gs : Fds} {hss : List Fds} {eqf : Fds → Bool} {R : List DV → DV → Prop} {R' : List DV → List (Str × DV) → Prop} {pos p : Pos} {k : Nat} {x : Str}
end
end PD

/-! common_writes. -/
namespace SP
open PySem PySem.Spec PyProof.Rows L2 PD
variable {g : Gb} {C M CS CG CP CN : Addr} {tG : Tok} {n : Nat}
/-! what is sorted -/
end SP

/-! musts. -/
namespace SP
open PySem PySem.Spec PyProof.Rows L2 PD
variable {g : Gb} {C M CS CG CP CN : Addr} {tG : Tok} {n : Nat}
end SP

/-! != of dicts, l * n, len with a bound. -/
namespace MX
open PySem PySem.W
open Sem (wp)
section
variable {prog : Program} {w : World} {A : Around} {E : Value → Shared → Prop} {s : Shared}
end
end MX
namespace PD
open PySem PySem.Spec PyProof.Rows L2 MX PySem.W
section
variable {g : Gb} {n : Nat} {l : Lc} {ρ : Rho} {a b e : Expr} {es : List Expr} {pos p : Pos} {fl fl2 : List (DV × Int)} {xs ds : List DV} {da db d : DV} {k : Nat} {x : Bool} {K : PySem.W.Frag} {ta tb : TE}
/-- l * n, l new -/
theorem rpa_rep {S : Hp} {vs : List V} (r : RpA K S vs xs) : ∀ k : Nat, RpA K S (List.replicate k vs).flatten (List.replicate k xs).flatten
  | 0 => .nil
  | k + 1 => by
    rw [List.replicate_succ, List.replicate_succ, List.flatten_cons, List.flatten_cons]
    exact r.append (rpa_rep r k)
end
section
variable {X : Cx} {n : Nat} {x : Str} {id : String} {p pos : Pos} {e : Expr} {es : List Expr} {t : TA} {r : List V → Hp → VK → Prop}
end
section
variable {g : Gb} {n : Nat} {l : Lc} {ρ : Rho} {a b e : Expr} {pos p : Pos} {ds : List DV} {da db : DV} {x : Bool}
end
end PD

/-! t * k for a tuple; _law_bad_part. -/
namespace PD
open PySem PySem.Spec PyProof.Rows L2
section
variable {g : Gb} {l : Lc} {ρ : Rho} {a b : Expr} {pos : Pos} {K : PySem.W.Frag} {xs : List DV} {k : Nat}
end
end PD
namespace SP
open PySem PySem.Spec PyProof.Rows L2 PD
section
variable {g : Gb}
end
end SP

/-! Data: f'..', x or y of texts, str(x), split, upper, replace of written texts. -/
namespace PD
open PySem PySem.Spec PyProof.Rows L2
section
variable {K : PySem.W.Frag} {ρ : Rho} {te ta tb : TE} {d da : DV}
end
section
variable {g : Gb} {l : Lc} {ρ : Rho} {e a b : Expr} {es : List Expr} {pos apos p : Pos} {n : Nat} {d da : DV} {x y : Str}
end
end PD

/-! What the checking part computes, as plain functions. -/
namespace SP
open PySem L2 PD
def intsD (xs : List Int) : List DV := xs.map DV.int
theorem intsD_len (xs : List Int) : (intsD xs).length = xs.length := List.length_map ..
theorem plain_ints : ∀ xs : List Int, plainAll (intsD xs) = true
  | [] => by simp [intsD, plainAll]
  | x :: xs => by
    show plainAll (DV.int x :: intsD xs) = true
    rw [plainAll, plain_ints xs, DV.plain]
    rfl
theorem dep_ints : ∀ xs : List Int, depAll (intsD xs) = 0
  | [] => by simp [intsD, depAll]
  | x :: xs => by
    show depAll (DV.int x :: intsD xs) = 0
    rw [depAll, dep_ints xs, DV.dep]
    rfl
theorem ok_ints (xs : List Int) : (DV.lst (intsD xs)).ok = true := by
  unfold DV.ok
  rw [DV.plain, plain_ints, DV.dep, dep_ints]
  rfl
theorem eqv_nil (x : Int) (xs : List Int) : (DV.lst (intsD (x :: xs))).eqv (.lst []) = false := by
  show PyData.eqv (DV.pd _) (DV.pd _) = _
  rw [DV.pd, DV.pd, PyData.eqv]
  show PyData.eqvAll (pdAll (DV.int x :: intsD xs)) (pdAll []) = false
  rw [pdAll, pdAll, PyData.eqvAll]
/-! cells -/
/-! drawn parts -/
/-! texts -/
/-- words over the letters -/
theorem word_app {ls a b : Str} {m n : Nat} (h : wordOk ls m a = true) (h' : wordOk ls n b = true) : wordOk ls (m + n) (a ++ b) = true := by
  unfold wordOk at h h' ⊢
  rw [Bool.and_eq_true] at h h' ⊢
  refine ⟨decide_eq_true ?_, ?_⟩
  · have h1 := of_decide_eq_true h.1
    have h2 := of_decide_eq_true h'.1
    rw [Str.length_append]
    omega
  · show (a.cps ++ b.cps).toList.all (codeOk ls) = true
    rw [Array.toList_append, List.all_append, h.2, h'.2]
    rfl
theorem word_nil (ls : Str) (m : Nat) : wordOk ls m ⟨#[]⟩ = true := by
  unfold wordOk
  rw [Bool.and_eq_true]
  exact ⟨decide_eq_true (Nat.zero_le _), rfl⟩
theorem word_le {ls a : Str} {m n : Nat} (h : wordOk ls m a = true) (hm : m ≤ n) : wordOk ls n a = true := by
  unfold wordOk at h ⊢
  rw [Bool.and_eq_true] at h ⊢
  exact ⟨decide_eq_true (Nat.le_trans (of_decide_eq_true h.1) hm), h.2⟩
theorem cat_word {ls : Str} {m : Nat} : ∀ l : List Str, (∀ p ∈ l, wordOk ls m p = true) → wordOk ls (l.length * m) (catS l) = true
  | [], _ => word_nil _ _
  | x :: l, h => by
    rw [catS_cons]
    exact word_le (word_app (h x (List.mem_cons_self ..)) (cat_word l fun p hp => h p (List.mem_cons_of_mem _ hp))) (by rw [List.length_cons, Nat.succ_mul]; omega)
theorem text_word {ls : Str} {ps : List Str} {od : List Nat} (hp : ∀ p ∈ ps, wordOk ls 2 p = true) (hod : od.length ≤ 3) (hb : ∀ b ∈ od, b < ps.length) : wordOk ls 6 (textOf ps od) = true := by
  unfold textOf
  refine word_le (cat_word (m := 2) _ fun p h => ?_) ?_
  · rw [List.mem_map] at h
    obtain ⟨b, hb', rfl⟩ := h
    exact hp _ (oldP_mem (hb b hb'))
  · rw [List.length_map]
    omega
end SP

namespace SP
open PySem PySem.Spec PyProof.Rows L2 PD
variable {g : Gb} {C : Addr}
theorem ints_get {xs : List Int} {i : Nat} (h : i < xs.length) : (intsD xs)[i]? = some (.int (xs.getD i 0)) := by
  unfold intsD
  rw [List.getElem?_map, List.getElem?_eq_getElem h, List.getD_eq_getElem?_getD, List.getElem?_eq_getElem h]
  rfl
/-- the script: a list, that may be one of the module's own -/
def Scr (D : DV) (xs : List Int) : Prop := D = .lst (intsD xs) ∨ D = .frz (intsD xs)
theorem Scr.ok {D : DV} {xs : List Int} (h : Scr D xs) : D.ok = true := by
  rcases h with rfl | rfl
  · exact ok_ints xs
  · unfold DV.ok
    rw [DV.plain, plain_ints, DV.dep, dep_ints]
    rfl
theorem Scr.eqv {D : DV} {xs : List Int} (h : Scr D xs) (d : DV) : D.eqv d = (DV.lst (intsD xs)).eqv d := by
  rcases h with rfl | rfl
  · rfl
  · unfold DV.eqv
    rw [DV.pd, DV.pd]
theorem psD_at {ps : List Str} {i : Nat} {d : DV} (h : (psD ps)[i]? = some d) : ∃ z, ps[i]? = some z ∧ d = .str z := by
  unfold psD at h
  rw [List.getElem?_map] at h
  cases q : ps[i]? with
  | none => rw [q] at h; cases h
  | some z =>
    rw [q] at h
    cases h
    exact ⟨z, rfl, rfl⟩
end SP


/-! f(lambda x: .., e): a lambda with one parameter and captured names, handed to a def that calls it on its second argument. -/
namespace PD
open PySem PySem.Spec PyProof.Rows L2 LamX
/-- one parameter it; all else captured or global -/
structure LamS1 (sc scope : Scope) (it : Str) : Prop where
  kind : scope.kind = .function
  co : scope.isCoroutine = false
  gen : scope.isGenerator = false
  par : scope.names.lookup it = some .local
  own : ∀ y ∈ scope.names, (y.2 = .local → y.1 = it) ∧ y.2 ≠ .cell
  free : ∀ y ∈ scope.names, y.2 = .free → sc.names.lookup y.1 = some .cell ∨ sc.names.lookup y.1 = some .free
def lamS1B (sc scope : Scope) (it : Str) : Bool :=
  decide (scope.kind = .function) && !scope.isCoroutine && !scope.isGenerator && decide (scope.names.lookup it = some .local) && scope.names.all fun y => (!decide (y.2 = .local) || decide (y.1 = it)) && !decide (y.2 = .cell) && (!decide (y.2 = .free) || decide (sc.names.lookup y.1 = some .cell) || decide (sc.names.lookup y.1 = some .free))
theorem lamS1_by {sc scope : Scope} {it : Str} (h : lamS1B sc scope it = true) : LamS1 sc scope it := by
  unfold lamS1B at h
  simp only [Bool.and_eq_true, Bool.or_eq_true, Bool.not_eq_true', decide_eq_true_eq, decide_eq_false_iff_not, List.all_eq_true] at h
  obtain ⟨⟨⟨⟨h1, h2⟩, h3⟩, h4⟩, h5⟩ := h
  refine ⟨h1, h2, h3, h4, fun y hy => ⟨fun e => ((h5 y hy).1.1).resolve_left (fun z => z e), (h5 y hy).1.2⟩, fun y hy e => ?_⟩
  rcases (h5 y hy).2 with (z | z) | z
  · exact absurd e z
  · exact .inl z
  · exact .inr z
section
variable {X : Cx} {pins : List (Addr × Obj)} {σ : L2.St} {H HZ : Hp} {s s1 : Shared} {scope : Scope} {it : Str}
theorem LamS1.has (L : LamS1 X.env.scope scope it) (ok : X.Ok) : ∀ y ∈ scope.names, y.2 = .free → ∃ c, X.env.cells.lookup y.1 = some c := fun y hy e => (L.free y hy e).elim (fun k => ok.has _ (.inl k)) fun k => ok.has _ (.inr k)
/-- the context of its body -/
abbrev lamCx1 (X : Cx) (A : Around) (outer : List Env) (s : Shared) (H : Hp) (E : XK) (scope : Scope) (f c' : Addr) (it : Str) : Cx := { lamCx X A outer s H E scope f c' with N := X.N ++ [it] }
theorem clo_same (L : LamS1 X.env.scope scope it) (ok : X.Ok) {y : Str} {c : Addr} (e : (cloFrom X.env.cells scope.names []).lookup y = some c) : X.env.cells.lookup y = some c := by
  rcases cloFrom_mem (PySem.mem_of_lookup e) with hm | ⟨h1, h2⟩
  · cases hm
  · obtain ⟨c1, hc⟩ := L.has ok _ h1 rfl
    have hc : X.env.cells.lookup y = some c1 := hc
    rw [hc]
    congr 1
    rw [h2, hc]
    rfl
theorem clo_has {y : Str} (h : scope.names.lookup y = some .free) : ∃ c, (cloFrom X.env.cells scope.names []).lookup y = some c :=
  mem_lookup (cloFrom_has (cells := X.env.cells) (acc := []) (PySem.mem_of_lookup h))
end
end PD

/-! An object that came up on the way, of nobody's knowledge: pinned, let go (the same four as in SK: take one of the two only). -/
namespace PD
open PySem PySem.Spec PyProof.Rows L2
section
variable {X : Cx} {pins : List (Addr × Obj)} {σ : L2.St} {H : Hp} {s : Shared}
theorem invUnpin {a : Addr} {o : Obj} (I : Inv X ((a, o) :: pins) σ H s) : Inv X pins σ H s := I.pins_of fun p hp => I.pin p (List.mem_append_right _ (List.mem_cons_of_mem _ hp))
theorem invPinAt {a : Addr} {o : Obj} (I : Inv X ((a, o) :: pins) σ H s) : s.heap.get? a = some o ∧ H a = none := by
  obtain ⟨h1, h2, _⟩ := I.pin (a, o) (List.mem_append_right _ (List.mem_cons_self ..))
  exact ⟨h1, h2⟩
end
end PD

/-! f(lambda x: .., e): the call; _law_row is such an f. -/
namespace PD
open PySem PySem.Spec PyProof.Rows L2 LamX
section
variable {X : Cx} {scope : Scope} {it : Str}
/-- the def x that calls its first parameter a on its second b; TT: what it makes of the lambda's reading -/
def GivesB (X : Cx) (k : Nat) (Ng : List Str) (x : Str) (sg : Scope) (g : Addr) (bg : List Stmt) (a b : Str) (q : Str) (TT : (XK → Hp → VK → Prop) → Hp → VK → Prop) : Prop :=
  ∀ (f c' : Addr) (cdg : Value) (s : Shared) (H : Hp) (Q : VK) (v : V) (tl : XK → Hp → VK → Prop), Room k (X.A.deeper (envOfC x sg s.heap.objs.size g cdg)) →
    (∀ (W : WX) (pn : List (Addr × Obj)) (xe : Value → Shared → Prop) (E : XK) (p1 p2 p3 : Pos), Takes ((cxOf CX0 X.prog X.w X.K X.mg X.base Ng x sg g cdg X.A X.stack s H E0).nox.tr pn xe) W →
      PE ((cxOf CX0 X.prog X.w X.K X.mg X.base Ng x sg g cdg X.A X.stack s H E0).nox.tr pn xe) (.Call (.Name a p1) [.Name b p3] [] p2) (fun σZ HZ Q => σZ[0]? = some (some (.ref f)) ∧ σZ[1]? = some (some v) ∧ HZ c' = some (CodeO c' q) ∧ (∀ cls d H', E cls d H' → W cls d σZ H') ∧ tl E HZ Q)) →
    H c' = some (CodeO c' q) → TT tl H Q →
    ∃ t, SsN (cxOf CX0 X.prog X.w X.K X.mg X.base Ng x sg g cdg X.A X.stack s H E0).nox 0 bg t ∧ t { nx := fun _ H' => Q .non H', rt := Q } (L2.start Ng [.ref f, v]) H
end
end PD

/-! plans.least_cost, can_change. -/
namespace PD
open PySem PySem.Spec PyProof.Rows L2
section
variable {X : Cx} {CX : CXT} {k n : Nat} {f C : Addr} {fd : FuncData} {ps : List Str} {sp : Sp} {E : XK} {x m : Str} {pos apos : Pos} {o : Expr} {ta : TE}
end
section
variable {g : Gb} {n : Nat} {l : Lc} {ρ : Rho} {o : Expr} {d : DV} {m : Str} {pos apos : Pos} {k : Nat} {C : Addr} {gs : List (Str × DV)} {R : List DV → DV → Prop}
end
end PD
namespace SP
open PySem PySem.Spec PyProof.Rows L2 PD
variable {g : Gb} {C M CS CG CP CN : Addr} {tG : Tok} {n : Nat}
section
variable {ρ : Rho}
end
end SP

/-! y = {k: v for ..} on one line, y a local. -/
namespace PD
open PySem PySem.Spec PyProof.Rows L2 MX
section
variable {X : Cx}
variable {kx vx tg iter : Expr} {ifs : List Expr} {scope : Scope} {own : List (Str × Nat)} {pos : Pos} {wi : TI} {g : TG} {tt : TT} {tk tv : TE}
end
section
variable {g : Gb} {l : Lc} {ρ : Rho} {E : Po} {kx vx tg iter : Expr} {ifs : List Expr} {scope : Scope} {own : List (Str × Nat)} {pos py spos : Pos} {n : Str} {ds : List DV}
end
end PD

/-! __init__ of an own exception: super().__init__(f'..{x}'); self.x = x. -/
namespace PD
open PySem PySem.Spec PyProof.Rows L2 PySem.W NdefX
section
variable {X : Cx}
end
end PD

/-! raise C(e), C's own __init__ says super().__init__(f'..{e}') and keeps e. -/
namespace PD
open PySem PySem.Spec PyProof.Rows L2
section
variable {K : PySem.W.Frag} {ρ : Rho} {E : Po} {Z : Zo} {ta : TA} {C : Addr} {txt fld : Str} {d : DV}
end
section
variable {g : Gb} {l : Lc} {ρ : Rho} {e : Expr} {E : Po} {Z : Zo} {d : DV} {n txt fld : Str} {C : Addr} {pos p p3 : Pos}
end
end PD

/-! isinstance of a dict. -/
namespace PD
open PySem PySem.Spec PyProof.Rows L2
section
variable {X : Cx}
end
section
variable {g : Gb} {l : Lc} {ρ : Rho} {e : Expr} {pos p p2 p3 p4 : Pos} {n : Str} {C : Addr} {b : Bool} {W : World} {ks vs : List DV}
end
end PD

/-! isinstance(x, C), C an own class, x no instance; check_file, also where it raises. -/
namespace PD
open PySem PySem.Spec PyProof.Rows L2
section
variable {g : Gb} {l : Lc} {ρ : Rho} {e : Expr} {pos p p2 : Pos} {d : DV} {t n : Str} {C : Addr} {b : Bool} {K : PySem.W.Frag} {te : TE}
end
end PD
namespace SP
open PySem PySem.Spec PyProof.Rows L2 PD
section
variable {g : Gb} {C CB : Addr} {txt : Str}
end
end SP

/-! passed_states and check_writes, where they raise. -/
namespace SP
open PySem PySem.Spec PyProof.Rows L2 PD
variable {g : Gb} {C CB : Addr} {txt : Str}
end SP

/-! safe_writes, from states in which at least n identities have been given out. -/
namespace SP
open PySem PySem.Spec PyProof.Rows L2 PD
variable {g : Gb} {C M : Addr} {n : Nat} {tG : Tok}
end SP

/-! Every function that starts with check_file(file), where the file is none. -/
namespace SP
open PySem PySem.Spec PyProof.Rows L2 PD
variable {g : Gb} {C CB : Addr} {n k : Nat}
section
variable {f : Addr} {fd : FuncData}
end
end SP

/-! check_goal, also where it raises. -/
namespace SP
open PySem PySem.Spec PyProof.Rows L2 PD
variable {g : Gb} {C CB : Addr}
end SP

/-! check_write, also where it raises; is_safe where it raises: of two errors, the one that is stated first. -/
namespace SP
open PySem PySem.Spec PyProof.Rows L2 PD
variable {g : Gb} {C CB CW : Addr}
end SP

/-! Every function that starts with check_file(file), check_goal(file, text), where the file is one and the text is none of it; and those with check_write(file, write), check_writes(file, writes). -/
namespace SP
open PySem PySem.Spec PyProof.Rows L2 PD
variable {g : Gb} {C CB CW : Addr} {n k : Nat}
section
variable {f : Addr} {fd : FuncData}
end
end SP

/-! Every function that starts with check_file(file), check_x(file, y), where the second check raises. -/
namespace SP
open PySem PySem.Spec PyProof.Rows L2 PD
variable {g : Gb} {C CB CW : Addr} {n k : Nat}
section
variable {f : Addr} {fd : FuncData}
end
end SP

/-! is_change, where the writes are none. -/
namespace SP
open PySem PySem.Spec PyProof.Rows L2 PD
variable {g : Gb} {C CB : Addr}
end SP

/-! plans, where something is raised; Plan((), {}).shows, NoPlan([]).shows. -/
namespace PD
open PySem PySem.Spec PyProof.Rows L2
/-- o.m(e, ..), what m lets out told with the slots -/
def tMethZ (C : Addr) (m : Str) (sp : Sp) (E : L2.St → XK) (te : TE) (ta : TA) : TE := fun σ H Q => te σ H fun x H1 => ∃ a dx fs, x = .ref a ∧ H1 a = some (.ins C dx fs) ∧ fs.lookup m = none ∧ ta σ H1 fun vs H2 => sp (.ref a :: vs) H2 Q (E σ)
section
variable {X : Cx} {CX : CXT} {k : Nat} {f C : Addr} {fd : FuncData} {ps : List Str} {sp : Sp} {E : L2.St → XK} {m : Str} {apos pos : Pos} {o e : Expr} {es : List Expr} {ta : TE} {t : TA}
theorem pe_methZ {pl : Sem Bool} (he : PE X o ta) (c : Cls X.K C) (hm : Meth X.K C m f) (F : FnOk X.prog X.w X.K X.mg X.base CX k f fd ps sp) (hr : Room k X.A) (hb : Binds X.K fd ps []) (hx : ∀ σ, PassesAt CX X σ (E σ)) (ha : PA X (e :: es) t)
    (hst : starEach (e :: es) X.env = (false, eval e X.env) :: starEach es X.env) (hpl : (backTo pos (starEach es X.env)).any (·.1) = false)
    (ht : eval (.Call (.Attribute o m apos) (e :: es) [] pos) X.env = (do
      let ov ← eval o X.env; standAt apos.atName; let (f, first) ← holding [ov] (getMethod ov m pl); callWith pos f first (backTo pos (starEach (e :: es) X.env)) (backToKw pos (keywordEach [] X.env)))) : PE X (.Call (.Attribute o m apos) (e :: es) [] pos) (tMethZ C m sp E ta t) := by
  refine ⟨fun pins s σ H Q I h => PySem.W.methodCall_KW (pl := pl) (thn (he.run pins s σ H _ I h) fun u s1 ⟨x, H1, I1, rx, a, dx, fs, ex, ea, l, q⟩ => ?_) ht⟩
  subst ex
  obtain rfl : u = Value.ref a := rx
  refine getmeth_ok I1 ea c hm l ?_
  exact PySem.W.callWith_K (first := [.ref a]) (h₀ := X.base) I1.ok.mod.kin hm.kp (thn (ha.run pos pins s1 σ H1 _ I1 q) fun us s2 ⟨vs, H2, I2, r, q2⟩ => ⟨I2.kIn, run_fnS (us := .ref a :: us) (vs := .ref a :: vs) F hr hb (hx σ) I2 (.cons rfl r) q2⟩) hst hpl
end
section
variable {g : Gb} {l : Lc} {ρ : Rho} {e o a b : Expr} {es : List Expr} {ds : List DV} {out : Out} {m : Str} {pos apos p : Pos} {k : Nat} {C C' : Addr} {gs hs : List (Str × DV)} {R : List DV → Out → Prop}
end
end PD
namespace SP
open PySem PySem.Spec PyProof.Rows L2 PD
variable {g : Gb} {C M CS CG CP CN CB C0 : Addr} {tG : Tok} {n : Nat}
section
variable {f : Addr} {fd : FuncData}
/-! shows: two methods that begin alike -/
end
end SP

/-! An exception without attributes is raised while a mutable thing is about. -/
namespace PD
open PySem PySem.Spec PyProof.Rows L2
section
variable {K : PySem.W.Frag} {ρ : Rho} {m m' : Mo} {tz tu tw : WX → TS} {ts : TS} {tt : TT} {E : Pm} {C : Addr} {b : Bool}
end
section
variable (g : Gb) (l : Lc)
end
section
variable {X : Cx} {CX : CXT} {k : Nat} {f C : Addr} {fd : FuncData} {ps : List Str} {sp : Sp} {E : L2.St → XK} {m : Str} {apos pos : Pos} {o : Expr} {ta : TE}
theorem pe_methZ0 {pl : Sem Bool} (he : PE X o ta) (c : Cls X.K C) (hm : Meth X.K C m f) (F : FnOk X.prog X.w X.K X.mg X.base CX k f fd ps sp) (hr : Room k X.A) (hb : Binds X.K fd ps []) (hx : ∀ σ, PassesAt CX X σ (E σ))
    (ht : eval (.Call (.Attribute o m apos) [] [] pos) X.env = (do
      let ov ← eval o X.env; standAt apos.atName; let (f, first) ← holding [ov] (getMethod ov m pl); callWith pos f first (backTo pos (starEach [] X.env)) (backToKw pos (keywordEach [] X.env)))) : PE X (.Call (.Attribute o m apos) [] [] pos) (tMethZ C m sp E ta tNil) := by
  refine ⟨fun pins s σ H Q I h => PySem.W.methodCall_KW (pl := pl) (thn (he.run pins s σ H _ I h) fun u s1 ⟨x, H1, I1, rx, a, dx, fs, ex, ea, l, q⟩ => ?_) ht⟩
  subst ex
  obtain rfl : u = Value.ref a := rx
  refine getmeth_ok I1 ea c hm l ?_
  exact PySem.W.callWith_K0 (first := [.ref a]) I1.kIn hm.kp (run_fnS (us := [.ref a]) (vs := [.ref a]) F hr hb (hx σ) I1 (.cons rfl .nil) q)
end
section
variable {g : Gb} {l : Lc} {ρ : Rho} {m m' : Mo} {c o : Expr} {st : Stmt} {sts body orelse : List Stmt} {E : Pm} {C CS p : Addr} {b : Bool} {pos apos p1 p2 p3 : Pos} {n : Str} {d : DV}
end
section
variable {g : Gb} {x qual : Str} {st : Stmt} {f C : Addr} {fd : FuncData} {N ps : List Str} {k : Nat}
end
end PD

/-! A class whose __init__ raises; File, where a part is not allowed. -/
namespace PD
open PySem PySem.Spec PyProof.Rows L2
section
variable {X : Cx} {CX : CXT} {k n : Nat} {f C : Addr} {fd : FuncData} {ps ks : List Str} {sp : Sp} {E : L2.St → XK} {x : Str} {p pos : Pos} {e : Expr} {es : List Expr} {kws : List Keyword} {t tk : TA} {gg : List Value → List Value → List Value} {gV : List V → List V → List V}
end
section
variable {g : Gb} {l : Lc} {ρ : Rho} {e : Expr} {es : List Expr} {pos p : Pos} {ds es' : List DV} {C C' : Addr} {gs : List (Str × DV)} {n : Str} {kws : List Keyword}
end
end PD
namespace SP
open PySem PySem.Spec PyProof.Rows L2 PD
section
variable {g : Gb} {C CB : Addr} {txt : Str}
/-! _law_made -/
end
end SP

/-! Beside a mutable thing: values, or exceptions with attributes; an object of plain data as such a thing. -/
namespace PD
open PySem PySem.Spec PyProof.Rows L2
section
variable {K : PySem.W.Frag} {ρ ρ' : Rho} {m m' : Mo} {tz tu tw : WX → TS} {te : WX → TE} {t0 : TE} {ts : TS} {tt : TT} {E : Pm} {Z : Zs} {b : Bool} {R : DV → Mo → Prop} {d : DV}
/-- a new instance, whose __init__ may raise -/
def tMakeY (C : Addr) (sp : Sp) (E : L2.St → XK) (t : TA) : TE := fun σ H Q => t σ H fun vs H1 => ∀ x dx, H1 x = none → H1 dx = none → dx ≠ x → sp (.ref x :: vs) (upd (upd H1 dx (.own x)) x (.ins C dx [])) (fun v H2 => v = .non ∧ Q (.ref x) H2) (E σ)
end
end PD

/-! The same by syntax; an instance of plain data that is changed. -/
namespace PD
open PySem PySem.Spec PyProof.Rows L2
def putG (f : Str) (d : DV) : List (Str × DV) → List (Str × DV)
  | [] => [(f, d)]
  | (k, x) :: r => if k = f then (k, d) :: r else (k, x) :: putG f d r
theorem rpf_put {K : PySem.W.Frag} {S : Hp} {f : Str} {v : V} {d : DV} (r : Rp K S v d) : ∀ {fs : List (Str × V)} {gs : List (Str × DV)}, RpF K S fs gs → RpF K S (putF f v fs) (putG f d gs)
  | _, _, .nil => .cons r .nil
  | _, _, .cons (n := n) a t => by
    unfold putF putG
    by_cases h : n = f
    · rw [if_pos h, if_pos h]; exact .cons r t
    · rw [if_neg h, if_neg h]; exact .cons a (rpf_put r t)
theorem rpf_len {K : PySem.W.Frag} {S : Hp} : ∀ {fs : List (Str × V)} {gs : List (Str × DV)}, RpF K S fs gs → fs.length = gs.length
  | _, _, .nil => rfl
  | _, _, .cons _ t => congrArg (· + 1) (rpf_len t)
section
variable {K : PySem.W.Frag} {ρ : Rho} {C p : Addr} {gs : List (Str × DV)} {E : Pm} {te : TE} {f : Str} {d : DV} {i : Nat}
end
section
variable {K : PySem.W.Frag} {ρ : Rho} {m m' : Mo} {tu : WX → TS} {te : WX → TE} {E : Pm} {Z : Zs} {R : DV → Mo → Prop} {i : Nat} {d : DV} {ds : List DV}
end
/-! ### by syntax -/
section
variable (g : Gb) (l : Lc)
end
section
variable {X : Cx} {CX : CXT} {k : Nat} {f C : Addr} {fd : FuncData} {ps : List Str} {sp : Sp} {E : L2.St → XK} {x : Str} {p pos : Pos} {e : Expr} {es : List Expr} {t : TA}
theorem pe_makeY (M : Mk X.K C f) (F : FnOk X.prog X.w X.K X.mg X.base CX k f fd ps sp) (hr : Room (k + 1) X.A) (hg : Gl X x) (hm : X.mg x = some (.ref C)) (hb : L2.Binds X.K fd ps []) (hx : ∀ σ, PassesAt CX X σ (E σ))
    (ha : PA X (e :: es) t) (hdb : (x == ("__debug__" : Str)) = false := by decide) (he : starEach (e :: es) X.env = (false, eval e X.env) :: starEach es X.env := by rfl) (hpl : (backTo pos (starEach es X.env)).any (·.1) = false := by rfl) :
    PE X (.Call (.Name x p) (e :: es) [] pos) (tMakeY C sp E t) := by
  refine ⟨fun pins s σ H Q I h => wpAny_Call_Name_kw (ld_glob I hg hm (PySem.W.callWith_K (h₀ := X.base) I.ok.mod.kin M.kp (thn (ha.run pos pins s σ H _ I h) fun us s1 ⟨vs, H1, I1, r, q⟩ => ⟨I1.kIn, ?_⟩) he hpl) hdb)⟩
  have at2 := q (s1.heap.objs.size + 1) s1.heap.objs.size (I1.hok.fresh (Nat.le_succ _)) (I1.hok.fresh (Nat.le_refl _)) (Nat.ne_of_lt (Nat.lt_succ_self _))
  have J := Inv.made (C := C) I1
  have self1 : Vals (V.ref (s1.heap.objs.size + 1) :: vs) (Value.ref (s1.heap.objs.size + 1) :: us) := .cons rfl r
  have lp : us.length + 1 = ps.length := by
    have := F.len _ _ _ _ at2
    rw [List.length_cons, r.length] at this
    exact this
  have bt := hb _ (Value.ref (s1.heap.objs.size + 1) :: us) J.kIn (by rw [List.append_nil, List.length_cons]; exact lp)
  rw [List.append_nil] at bt
  refine wpAny_call (make_map (f := f) I1.kIn M.makes M.init (beq_iff_eq.mp M.fn) (codeAny_mono (F.run _ X.stack _ _ ⟨Value.ref (s1.heap.objs.size + 1) :: us, []⟩ (Value.ref (s1.heap.objs.size + 1) :: us) _ _ (E σ) (hr.make C us []) (J.env0.make C us []) bt self1 at2) fun w s' hq => ?_))
  match w, hq with
  | .error e, hq => exact hx σ pins _ _ e s' J hq
  | .ok (.ret u), hq =>
    obtain ⟨v, H', I3, rv, ev, q3⟩ := J.after hq
    subst ev
    exact ⟨rv, ⟨V.ref (s1.heap.objs.size + 1), H', I3, rfl, q3⟩⟩
  | .ok .next, hq => exact False.elim hq
  | .ok .brk, hq => exact False.elim hq
  | .ok .cont, hq => exact False.elim hq
end
section
variable {g : Gb} {l : Lc} {ρ ρ' : Rho} {m m' : Mo} {c o e : Expr} {es : List Expr} {st : Stmt} {sts body orelse : List Stmt} {E : Pm} {Z : Zs} {C CS p : Addr} {b : Bool} {pos apos p1 p2 p3 py : Pos} {n f : Str} {d : DV} {ds : List DV} {R : DV → Mo → Prop} {gs : List (Str × DV)}
end
section
variable {g : Gb} {x qual : Str} {st : Stmt} {f : Addr} {fd : FuncData} {N ps : List Str} {k : Nat}
end
/-! ### attributes of an instance of plain data -/
section
variable {g : Gb} {l : Lc} {ρ : Rho} {E : Pm} {C p : Addr} {gs : List (Str × DV)} {i : Nat} {f nm : Str} {d : DV} {e : Expr} {p1 p2 p3 p4 : Pos}
end
end PD

/-! Cells: a finite part of the heap, by addresses: instances, lists, tables of code objects; what is read of them and written. -/
namespace PD
open PySem PySem.Spec PyProof.Rows L2 LamX
inductive Cel where
  | ins (C : Addr) (gs : List (Str × DV)) | lst (ds : List DV) | tab (q : Str)
abbrev Cels := Addr → Option Cel
def CelOk (K : PySem.W.Frag) (S H : Hp) (p : Addr) : Cel → Prop
  | .ins C gs => ∃ dx fs, H p = some (.ins C dx fs) ∧ RpF K S fs gs
  | .lst ds => ∃ vs, H p = some (.lst vs) ∧ RpA K S vs ds
  | .tab q => ∃ ps : Array Value, H p = some (.tbl ps) ∧ TriplesOk ps.toList ∧ ∀ (pos : Pos) (cv : Value), codeAmong pos ps.toList = some cv → ∃ c, cv = .ref c ∧ S c = some (CodeO c q)
theorem CelOk.mv {K : PySem.W.Frag} {S H S' H' : Hp} {p : Addr} {c : Cel} (e : Ex S S') (k : H' p = H p) (h : CelOk K S H p c) : CelOk K S' H' p c := by
  cases c with
  | ins C gs => obtain ⟨dx, fs, a, r⟩ := h; exact ⟨dx, fs, by rw [k]; exact a, r.up e⟩
  | lst ds => obtain ⟨vs, a, r⟩ := h; exact ⟨vs, by rw [k]; exact a, r.up e⟩
  | tab q =>
    obtain ⟨ps, a, t, r⟩ := h
    refine ⟨ps, by rw [k]; exact a, t, fun pos cv z => ?_⟩
    obtain ⟨c, e1, e2⟩ := r pos cv z
    exact ⟨c, e1, e _ _ e2⟩
def cM (K : PySem.W.Frag) (L : Cels) : Mo := ⟨fun q => L q ≠ none, fun S H => ∀ p c, L p = some c → CelOk K S H p c, fun S H S' H' e k h p c z => (h p c z).mv e (k p (by rw [z]; exact fun y => by cases y))⟩
/-- L with c at p -/
def cu (L : Cels) (p : Addr) (c : Cel) : Cels := fun q => if q = p then some c else L q
theorem cu_same {L : Cels} {p : Addr} {c : Cel} : cu L p c p = some c := if_pos rfl
theorem cu_ne {L : Cels} {p q : Addr} {c : Cel} (h : q ≠ p) : cu L p c q = L q := if_neg h
def c0 : Cels := fun _ => none
section
variable {K : PySem.W.Frag} {S0 H0 B S H S' H' : Hp} {σ : L2.St} {ρ ρ' : Rho} {m m' : Mo} {L : Cels} {p : Addr} {c c' : Cel} {o : HO}
theorem Sm.cel (s : Sm K S0 H0 B σ S H ρ (cM K L)) (h : L p = some c) : CelOk K S H p c := s.d.p p c h
/-- a cell is written -/
theorem Sm.cput (s : Sm K S0 H0 B σ S H ρ (cM K L)) (h : L p = some c) (k : CelOk K S (upd H p o) p c') : Sm K S0 H0 B σ S (upd H p o) ρ (cM K (cu L p c')) := by
  have hd : (cM K L).dom p := by
    show L p ≠ none
    rw [h]
    exact fun y => by cases y
  refine SP.Sm.upd' (m' := cM K (cu L p c')) s hd (fun q y => ?_) (fun q x y => ?_)
  · by_cases w : q = p
    · rw [w]; exact hd
    · have y' : cu L p c' q ≠ none := y
      rw [cu_ne w] at y'
      exact y'
  · by_cases w : q = p
    · subst w
      rw [cu_same] at y
      cases y
      exact k
    · rw [cu_ne w] at y
      exact (s.d.p q x y).mv (Ex.rf S) (upd_ne w)
/-- a new cell, at a free address -/
theorem Sm.cnew (s : Sm K S0 H0 B σ S H ρ (cM K L)) (h : H p = none) (k : CelOk K S (upd H p o) p c) : Sm K S0 H0 B σ S (upd H p o) ρ (cM K (cu L p c)) := by
  have nL : L p = none := by
    cases z : L p with
    | none => rfl
    | some x =>
      exact absurd h (s.d.z p (by show L p ≠ none; rw [z]; exact fun y => by cases y)).2.2.2
  have nd : ¬ (cM K L).dom p := fun y => y nL
  have nS : S p = none := s.g.sub.free h
  have n0 : H0 p = none := s.h0 (.inr h)
  have nS0 : S0 p = none := by
    cases z : S0 p with
    | none => rfl
    | some u => have := s.g.s p u z; rw [nS] at this; cases this
  have dm : ∀ q, q ≠ p → ((cM K (cu L p c)).dom q ↔ (cM K L).dom q) := fun q w => by
    show cu L p c q ≠ none ↔ L q ≠ none
    rw [cu_ne w]
  have e1 : Ex H (upd H p o) := Ex.new h
  have mx : ∀ q, q ≠ p → mix (cM K (cu L p c)) H0 (upd H p o) q = mix (cM K L) H0 H q := fun q w => by
    by_cases y : (cM K L).dom q
    · rw [mix_in y, mix_in ((dm q w).mpr y), upd_ne w]
    · rw [mix_out y, mix_out fun z => y ((dm q w).mp z)]
  have dp : (cM K (cu L p c)).dom p := by
    show cu L p c p ≠ none
    rw [cu_same]
    exact fun y => by cases y
  refine ⟨⟨s.g.s, fun a u y => ?_, fun a u y => e1 a u (s.g.sub a u y), fun a u y n => ?_⟩, s.b, ⟨s.n.len, fun i v x a b => ?_, s.n.sep⟩, ⟨fun q y => ?_, fun q x y => ?_⟩⟩
  · by_cases w : a = p
    · rw [w, mix_in dp] at y; rw [w]; exact y
    · rw [mx a w] at y
      exact e1 a u (s.g.h a u y)
  · have w : a ≠ p := ne_of_none y nS
    rw [mx a w]
    exact s.g.new a u y n
  · have k1 := s.n.at_ i v x a b
    cases x with
    | un => trivial
    | exo _ _ _ => exact k1
    | val d => exact k1
    | ownD d =>
      obtain ⟨p', o', k2, k3, k4, k5, k6⟩ := k1
      have w : p' ≠ p := ne_of_none k5 h
      exact ⟨p', o', k2, by rw [mx p' w]; exact k3, k4, e1 _ _ k5, k6⟩
  · by_cases w : q = p
    · rw [w]; exact ⟨n0, nS0, nS, by rw [upd_same]; exact fun y => by cases y⟩
    · obtain ⟨a1, a2, a3, a4⟩ := s.d.z q ((dm q w).mp y)
      exact ⟨a1, a2, a3, by rw [upd_ne w]; exact a4⟩
  · by_cases w : q = p
    · subst w
      rw [cu_same] at y
      cases y
      exact k
    · rw [cu_ne w] at y
      exact (s.d.p q x y).mv (Ex.rf S) (upd_ne w)
/-- a free address gets something that is not told of -/
theorem Sm.junk (s : Sm K S0 H0 B σ S H ρ m) (h : H p = none) : Sm K S0 H0 B σ S (upd H p o) ρ m := s.go (Go.side s.g.sub (Ex.new h))
end
/-! ### what is read -/
section
variable {K : PySem.W.Frag} {ρ ρ' : Rho} {m m' : Mo} {L : Cels} {te ta : TE} {d d' e' : DV} {C p q : Addr} {gs : List (Str × DV)} {f : Str} {ds : List DV} {i : Nat} {E : Pm} {r : R2}
theorem evu_fld (c : Cls K C) (hn : NoAttr K C f) (h : EvU K te ρ m (.adr p) (cM K L)) (hp : L p = some (.ins C gs)) (hl : gs.lookup f = some d) : EvU K (tFld K te f) ρ m d (cM K L) := fun S0 H0 B σ S H s Q q =>
  h S0 H0 B σ S H s _ fun v S1 H1 s1 e1 r1 => by
    cases r1
    obtain ⟨dx, fs, a, rf⟩ := s1.cel hp
    obtain ⟨u, hu, ru⟩ := rf.look hl
    exact ⟨p, C, dx, fs, u, rfl, a, c, hn, hu, q u S1 H1 s1 e1 ru⟩
/-- an operation on what such readings give -/
theorem evu_opD {tb : TE} {a b : DV} {m2 : Mo} (ha : EvU K ta ρ m a m') (hb : EvU K tb ρ m' b m2) (hr : OpD K r a b d) : EvU K (tOp r ta tb) ρ m d m2 := fun S0 H0 B σ S H s Q q =>
  ha S0 H0 B σ S H s _ fun x S1 H1 s1 e1 r1 => hb S0 H0 B σ S1 H1 s1 _ fun y S2 H2 s2 e2 r2 => hr S2 H2 x y s2.g.sub (r1.up e2) r2 Q fun v S3 H3 g3 r3 => q v S3 H3 (s2.go g3) (e1.tr (e2.tr g3.s)) r3
/-- arguments -/
def EvAU (K : PySem.W.Frag) (ta : TA) (ρ : Rho) (m : Mo) (ds : List DV) (m' : Mo) : Prop := ∀ S0 H0 B σ S H, Sm K S0 H0 B σ S H ρ m → ∀ Q : List V → Hp → Prop, (∀ vs S' H', Sm K S0 H0 B σ S' H' ρ m' → Ex S S' → RpA K S' vs ds → Q vs H') → ta σ H Q
theorem eau_nil : EvAU K tNil ρ m [] m := fun S0 H0 B σ S H s Q q => q [] S H s (Ex.rf S) .nil
theorem eau_of {ta : TA} (h : EvA K ta ρ ds) : EvAU K ta ρ m ds m := fun S0 H0 B σ S H s Q q => h _ σ S H s.g.sub s.n Q fun vs S' H' g r => q vs S' H' (s.go g) g.s r
theorem eau_cons {tr : TA} {m2 : Mo} (h : EvU K te ρ m d m') (hr : EvAU K tr ρ m' ds m2) : EvAU K (tCons te tr) ρ m (d :: ds) m2 := fun S0 H0 B σ S H s Q q =>
  h S0 H0 B σ S H s _ fun x S1 H1 s1 e1 r1 => hr S0 H0 B σ S1 H1 s1 _ fun vs S2 H2 s2 e2 r2 => q (x :: vs) S2 H2 s2 (e1.tr e2) (.cons (r1.up e2) r2)
theorem evu_tup {tx : TA} (h : EvAU K tx ρ m ds m') (hl : ds.length ≤ 100000) : EvU K (tTup tx) ρ m (.tup ds) m' := fun S0 H0 B σ S H s Q q =>
  h S0 H0 B σ S H s _ fun vs S1 H1 s1 e1 r1 => ⟨Nat.le_trans (by rw [r1.len]; exact hl) (by decide), fun p hp => q _ _ _ (s1.go (Go.up s1.g.sub hp)) (e1.tr (Ex.new (s1.g.sub.free hp))) (.tup (Or.inl (Or.inl upd_same)) (r1.up (Ex.new (s1.g.sub.free hp))))⟩
end
end PD

/-! Cells lent as plain data; what comes out of such a reading. -/
namespace PD
open PySem PySem.Spec PyProof.Rows L2 LamX
mutual
/-- data of which no part is a cell whose class is one of Cs -/
def DV.cln (Cs : List Addr) : DV → Bool
  | .non => true | .bl _ => true | .int _ => true | .str _ => true | .tup xs => clnAll Cs xs | .obj C fs => !Cs.contains C && clnFs Cs fs | .adr _ => true | _ => false
def clnAll (Cs : List Addr) : List DV → Bool
  | [] => true
  | d :: ds => d.cln Cs && clnAll Cs ds
def clnFs (Cs : List Addr) : List (Str × DV) → Bool
  | [] => true
  | x :: fs => x.2.cln Cs && clnFs Cs fs
end
section
variable {K : PySem.W.Frag} {S3 S' : Hp} {Cs : List Addr}
mutual
theorem cln_cut (hs : ∀ q xs, Rd S3 q (.tup xs) → Rd S' q (.tup xs)) (ho : ∀ q C dx fs, Cs.contains C = false → S3 q = some (.ins C dx fs) → S' q = some (.ins C dx fs)) : ∀ {v : V} {d : DV}, d.cln Cs = true → Rp K S3 v d → Rp K S' v d
  | _, _, _, .non => .non
  | _, _, _, .bl b => .bl b
  | _, _, _, .int i => .int i
  | _, _, _, .str x => .str x
  | _, _, h, .tup a r => .tup (a.imp (hs _ _) id) (clns_cut hs ho (by simpa [DV.cln] using h) r)
  | _, _, h, .obj a r => by
    rw [DV.cln, Bool.and_eq_true, Bool.not_eq_true'] at h
    exact .obj (ho _ _ _ _ h.1 a) (clnf_cut hs ho h.2 r)
  | _, _, h, .lst _ _ => by simp [DV.cln] at h
  | _, _, h, .frz _ _ => by simp [DV.cln] at h
  | _, _, h, .dct _ _ _ => by simp [DV.cln] at h
  | _, _, h, .tks _ _ => by simp [DV.cln] at h
  | _, _, _, .adr a => .adr a
theorem clns_cut (hs : ∀ q xs, Rd S3 q (.tup xs) → Rd S' q (.tup xs)) (ho : ∀ q C dx fs, Cs.contains C = false → S3 q = some (.ins C dx fs) → S' q = some (.ins C dx fs)) : ∀ {vs : List V} {ds : List DV}, clnAll Cs ds = true → RpA K S3 vs ds → RpA K S' vs ds
  | _, _, _, .nil => .nil
  | _, _, h, .cons r q => by
    rw [clnAll, Bool.and_eq_true] at h
    exact .cons (cln_cut hs ho h.1 r) (clns_cut hs ho h.2 q)
theorem clnf_cut (hs : ∀ q xs, Rd S3 q (.tup xs) → Rd S' q (.tup xs)) (ho : ∀ q C dx fs, Cs.contains C = false → S3 q = some (.ins C dx fs) → S' q = some (.ins C dx fs)) : ∀ {fs : List (Str × V)} {gs : List (Str × DV)}, clnFs Cs gs = true → RpF K S3 fs gs → RpF K S' fs gs
  | _, _, _, .nil => .nil
  | _, _, h, .cons r q => by
    rw [clnFs, Bool.and_eq_true] at h
    exact .cons (cln_cut hs ho h.1 r) (clnf_cut hs ho h.2 q)
end
end
/-- the classes of L's instances are among Cs -/
def Kin (L : Cels) (Cs : List Addr) : Prop := ∀ q C gs, L q = some (.ins C gs) → Cs.contains C = true
theorem Kin.cu {L : Cels} {Cs : List Addr} {p : Addr} {c : Cel} (h : Kin L Cs) (k : ∀ C gs, c = .ins C gs → Cs.contains C = true) : Kin (PD.cu L p c) Cs := fun q C gs e => by
  by_cases w : q = p
  · subst w
    rw [cu_same] at e
    exact k C gs (Option.some.inj e)
  · rw [cu_ne w] at e
    exact h q C gs e
section
variable {K : PySem.W.Frag} {S0 H0 B S H S3 H3 : Hp} {σ : L2.St} {ρ : Rho} {L : Cels} {Cs : List Addr} {p : Addr} {d r : DV} {te : TE} {i : Nat} {ds : List DV}
theorem cM_nt {q : Addr} {xs : List V} (h : (cM K L).P S H) (hq : (cM K L).dom q) : ¬ Rd H q (.tup xs) := fun z => by
  cases e : L q with
  | none => exact hq e
  | some c =>
    have k := h q c e
    cases c with
    | ins C gs =>
      obtain ⟨dx, fs, a, _⟩ := k
      rcases z with z | ⟨o, z⟩ <;> (rw [a] at z; cases z)
    | lst ds =>
      obtain ⟨vs, a, _⟩ := k
      rcases z with z | ⟨o, z⟩ <;> (rw [a] at z; cases z)
    | tab q' =>
      obtain ⟨ps, a, _⟩ := k
      rcases z with z | ⟨o, z⟩ <;> (rw [a] at z; cases z)
theorem cM_ins (hk : Kin L Cs) {q C dx : Addr} {fs : List (Str × V)} (h : (cM K L).P S H) (hq : (cM K L).dom q) (hC : Cs.contains C = false) : H q ≠ some (.ins C dx fs) := fun z => by
  cases e : L q with
  | none => exact hq e
  | some c =>
    have k := h q c e
    cases c with
    | ins C' gs =>
      obtain ⟨dx', fs', a, _⟩ := k
      rw [a] at z
      cases z
      rw [hk q _ _ e] at hC
      cases hC
    | lst ds =>
      obtain ⟨vs, a, _⟩ := k
      rw [a] at z; cases z
    | tab q' =>
      obtain ⟨ps, a, _⟩ := k
      rw [a] at z; cases z
/-- a view of p, cells taken as still things -/
structure Vc (K : PySem.W.Frag) (L : Cels) (p : Addr) (d : DV) : Prop where
  v : ∀ S H, (∀ q, L q ≠ none → S q = none) → (cM K L).P S H → Rp K (mix (cM K L) S H) (.ref p) d
theorem lock0 {H : Hp} {ods : Addr → Obj} : lockA H [] ods = H := funext fun q => lockA_out (by rfl)
theorem Vc.w (w : Vc K L p d) : Vw K (cM K L) p d where
  v := fun S H hz hp => ⟨[], fun q es e => (nomatch e), fun q es e => (nomatch e), fun ods => by rw [lock0]; exact w.v S H hz hp⟩
  nt := fun S H q xs hp hq => cM_nt hp hq
theorem cut_ins (hk : Kin L Cs) (s : Md (cM K L) S0 H0 S H) (g : Ex (mix (cM K L) S H) S3) : ∀ q C dx fs, Cs.contains C = false → S3 q = some (.ins C dx fs) → PD.cutS (cM K L) S3 q = some (.ins C dx fs) := fun q C dx fs hC h => by
  have nq : ¬ (cM K L).dom q := fun hq => by
    cases y : H q with
    | none => exact (s.z q hq).2.2.2 y
    | some o =>
      have k := g q o (by rw [mix_in hq]; exact y)
      rw [h] at k
      cases k
      exact cM_ins hk s.p hq hC y
  rw [cutS_out nq]
  exact h
theorem evu_lendC (hk : Kin L Cs) (w : Vc K L p d) (hi : ρ[i]? = some (.val (.adr p))) (h : EvD K te (ρ.set i (.val d)) r) (hf : r.cln Cs = true) : EvU K (lendE te) ρ (cM K L) r (cM K L) := fun S0 H0 B σ S H s Q q => by
  obtain ⟨LL, hd, hL, rp⟩ := w.w.v S H (fun q y => (s.d.z q y).2.2.1) s.d.p
  refine ⟨[], fun q es e => (nomatch e), fun ods => ?_⟩
  have rp' : Rp K (mix (cM K L) S (lockA H [] ods)) (.ref p) d := by rw [lock0]; exact w.v S H (fun q y => (s.d.z q y).2.2.1) s.d.p
  refine h _ σ _ _ (lend_ex (L := []) s.d s.g.sub (fun q es e => (nomatch e))).1 (lend_en s (fun q es e => (nomatch e)) hi rp') _ fun v S3 H3 g3 r3 => ?_
  obtain ⟨a, g⟩ := lend_back (L := []) s.d s.g.sub (fun q es e => (nomatch e)) (fun q es e => (nomatch e)) g3
  have e3 : Ex (mix (cM K L) S H) S3 := by have := g3.s; rw [lock0] at this; exact this
  exact ⟨a, q v _ _ (s.go g) g.s (cln_cut (lend_tup (L := []) (ods := ods) s.d (fun q xs => cM_nt s.d.p) g3.s) (cut_ins hk s.d e3) hf r3)⟩
/-- views: a list; an instance -/
theorem vc_lst (h : L p = some (.lst ds)) : Vc K L p (.lst ds) := ⟨fun S H hz hp => by
  obtain ⟨vs, a, r⟩ := hp p _ h
  have hd : (cM K L).dom p := by show L p ≠ none; rw [h]; exact fun y => by cases y
  refine .lst (.inl (by rw [mix_in hd]; exact a)) (r.up fun b u y => ?_)
  rw [mix_out (fun z => by rw [hz b z] at y; cases y)]
  exact y⟩
/-- fields against a view of them -/
inductive Vf (K : PySem.W.Frag) (L : Cels) : List (Str × DV) → List (Str × DV) → Prop
  | nil : Vf K L [] []
  | same {n : Str} {d : DV} {gs hs : List (Str × DV)} : Vf K L gs hs → Vf K L ((n, d) :: gs) ((n, d) :: hs)
  | see {n : Str} {a : Addr} {d : DV} {gs hs : List (Str × DV)} : Vc K L a d → Vf K L gs hs → Vf K L ((n, .adr a) :: gs) ((n, d) :: hs)
theorem Vf.rp (hz : ∀ q, L q ≠ none → S q = none) (hp : (cM K L).P S H) : ∀ {gs hs : List (Str × DV)} {fs : List (Str × V)}, Vf K L gs hs → RpF K S fs gs → RpF K (mix (cM K L) S H) fs hs
  | _, _, _, .nil, .nil => .nil
  | _, _, _, .same v, .cons a r => .cons (a.up fun b u y => by
      rw [mix_out (fun z => by rw [hz b z] at y; cases y)]
      exact y) (Vf.rp hz hp v r)
  | _, _, _, .see w v, .cons a r => by
    cases a
    exact .cons (w.v S H hz hp) (Vf.rp hz hp v r)
theorem vc_ins {C : Addr} {gs hs : List (Str × DV)} (h : L p = some (.ins C gs)) (v : Vf K L gs hs) : Vc K L p (.obj C hs) := ⟨fun S H hz hp => by
  obtain ⟨dx, fs, a, r⟩ := hp p _ h
  have hd : (cM K L).dom p := by show L p ≠ none; rw [h]; exact fun y => by cases y
  exact .obj (by rw [mix_in hd]; exact a) (v.rp hz hp r)⟩
end
section
variable {g : Gb} {l : Lc} {ρ : Rho} {L : Cels} {Cs : List Addr} {p : Addr} {d r : DV} {e : Expr} {ds : List DV} {b : Bool}
theorem dem_lendC (i : Nat) (hk : Kin L Cs) (w : Vc g.K L p d) (hi : ρ[i]? = some (.val (.adr p))) (h : DE g l e (ρ.set i (.val d)) r) (hf : r.cln Cs = true) : DEM g l e ρ (cM g.K L) r (cM g.K L) := DEM.by _ (fun X o => pe_lend (UE.pe o e)) (evu_lendC hk w hi h hf)
theorem dtm_lendV (i : Nat) (w : Vc g.K L p d) (hi : ρ[i]? = some (.val (.adr p))) (h : DT g l e (ρ.set i (.val d)) b) : DTM g l e ρ (cM g.K L) b (cM g.K L) := dtm_lend w.w hi h
end
end PD

/-! Values or exceptions beside cells, what the cells hold then told in both cases. -/
namespace PD
open PySem PySem.Spec PyProof.Rows L2 LamX
abbrev Zw := Rho → Addr → List (Str × DV) → Mo → Prop
abbrev Zf := Addr → List (Str × DV) → Mo → Prop
def OkW (K : PySem.W.Frag) (S0 H0 B : Hp) (W : WX) (Z : Zw) : Prop := ∀ C gs cls d ρ m σ S H, Z ρ C gs m → Sm K S0 H0 B σ S H ρ m → ExD K S C gs cls d → W cls d σ H
def StW (K : PySem.W.Frag) (tz : WX → TS) (ρ : Rho) (m : Mo) (E : Pm) (Z : Zw) : Prop := ∀ S0 H0 B σ S H D W, Sm K S0 H0 B σ S H ρ m → Okm K S0 H0 B D E → OkW K S0 H0 B W Z → tz W D σ H
def EvW (K : PySem.W.Frag) (tz : WX → TE) (ρ : Rho) (m : Mo) (R : DV → Mo → Prop) (Z : Zw) : Prop := ∀ S0 H0 B σ S H W, Sm K S0 H0 B σ S H ρ m → OkW K S0 H0 B W Z → ∀ Q : VK, (∀ d m' v S' H', R d m' → Sm K S0 H0 B σ S' H' ρ m' → Ex S S' → Rp K S' v d → Q v H') → tz W σ H Q
/-- a promise over data and cells -/
def spW (K : PySem.W.Frag) (A : Mo → List DV → (DV → Mo → Prop) → Zf → Prop) : Sp := fun vs H Q E => ∃ S m ds R Z, Ex S H ∧ (∀ q, m.dom q → S q = none ∧ H q ≠ none) ∧ m.P S H ∧ RpA K S vs ds ∧ A m ds R Z ∧ (∀ d m' v S' H', R d m' → Bk m S H m' S' H' → Rp K S' v d → Q v H') ∧ ∀ C gs cls d m' S' H', Z C gs m' → Bk m S H m' S' H' → ExD K S' C gs cls d → E cls d H'
section
variable {K : PySem.W.Frag} {ρ ρ' : Rho} {m m' : Mo} {tz tu tw : WX → TS} {te : WX → TE} {t0 : TE} {ts : TS} {tt : TT} {E : Pm} {Z : Zw} {b : Bool} {R R' : DV → Mo → Prop} {d : DV} {i : Nat}
theorem StW.of (h : StM K ts ρ m E) : StW K (fun _ => ts) ρ m E Z := fun S0 H0 B σ S H D W s o _ => h S0 H0 B σ S H D s o
theorem EvW.of (h : EvR K t0 ρ m R) : EvW K (fun _ => t0) ρ m R Z := fun S0 H0 B σ S H W s _ Q q => h S0 H0 B σ S H s Q q
theorem stw_seq (h : StW K tu ρ m { E with nx := fun ρ' m' => StW K tw ρ' m' E Z } Z) : StW K (fun W => tSeq (tu W) (tw W)) ρ m E Z := fun S0 H0 B σ S H D W s o z =>
  h S0 H0 B σ S H { D with nx := tw W D } W s ⟨fun ρ' m' σ' S' H' q s' => q S0 H0 B σ' S' H' D W s' o z, o.rt, o.bk, o.ct⟩ z
theorem stw_if (h : EvBU K tt ρ m b m') (h1 : b = true → StW K tu ρ m' E Z) (h2 : b = false → StW K tw ρ m' E Z) : StW K (fun W => tIfS tt (tu W) (tw W)) ρ m E Z := fun S0 H0 B σ S H D W s o z =>
  h S0 H0 B σ S H s _ fun S1 H1 s1 _ => by
    cases b with
    | true =>
      rw [if_pos rfl]
      exact h1 rfl S0 H0 B σ S1 H1 D W s1 o z
    | false =>
      rw [if_neg (by decide)]
      exact h2 rfl S0 H0 B σ S1 H1 D W s1 o z
theorem stw_asg (h : EvW K te ρ m R Z) (q : ∀ d m', R d m' → E.nx (ρ.set i (.val d)) m') : StW K (fun W => tAsg (te W) (gName i)) ρ m E Z := fun S0 H0 B σ S H D W s o z =>
  h S0 H0 B σ S H W s z _ fun d m' v S1 H1 r s1 e1 r1 => o.nx _ m' _ S1 H1 (q d m' r) (s1.set r1)
theorem stw_drop (h : EvW K te ρ m R Z) (q : ∀ d m', R d m' → E.nx ρ m') : StW K (fun W => tDrop (te W)) ρ m E Z := fun S0 H0 B σ S H D W s o z =>
  h S0 H0 B σ S H W s z _ fun d m' v S1 H1 r s1 e1 r1 => o.nx _ m' _ S1 H1 (q d m' r) s1
theorem stw_ret (h : EvW K te ρ m R Z) (q : ∀ d m', R d m' → E.rt d m') : StW K (fun W => tRet (te W)) ρ m E Z := fun S0 H0 B σ S H D W s o z =>
  h S0 H0 B σ S H W s z _ fun d m' v S1 H1 r s1 e1 r1 => o.rt d m' v S1 H1 (q d m' r) ⟨s1.g, s1.d, r1⟩
theorem stw_raise0 {C : Addr} (q : Z ρ C [] m) : StW K (fun W _ σ H => W (.ref C) none σ H) ρ m E Z := fun S0 H0 B σ S H D W s o z => z C [] _ _ ρ m σ S H q s ⟨rfl, .inl ⟨rfl, rfl⟩⟩
/-- pure arguments, a method -/
theorem evw_meth {ta : TA} {A : Mo → List DV → (DV → Mo → Prop) → Zf → Prop} {n : Str} {p CS : Addr} {ds : List DV} {F : Zf} (hI : InsAt m p CS n) (h : EvU K t0 ρ m (.adr p) m) (ha : EvAU K ta ρ m ds m) (hA : A m (.adr p :: ds) R F) (hz : ∀ C gs m', F C gs m' → Z ρ C gs m') : EvW K (fun W => tMethZ CS n (spW K A) (WE W) t0 ta) ρ m R Z := fun S0 H0 B σ S H W s z Q q =>
  h S0 H0 B σ S H s _ fun v S1 H1 s1 e1 r1 => by
    cases r1
    obtain ⟨dx, fs, hp, hl⟩ := hI S1 H1 s1.d.p
    refine ⟨p, dx, fs, rfl, hp, hl, ha S0 H0 B σ S1 H1 s1 _ fun vs S2 H2 s2 e2 r2 => ?_⟩
    exact ⟨S2, m, _, R, F, s2.g.sub, fun q y => ⟨(s2.d.z q y).2.2.1, (s2.d.z q y).2.2.2⟩, s2.d.p, .cons (.adr p) r2, hA, fun d m' v S3 H3 hR b r3 => q d m' v S3 H3 hR (s2.back b) (e1.tr (e2.tr b.s)) r3, fun C gs cls d m' S3 H3 y b x3 => z C gs cls d ρ m' σ S3 H3 (hz C gs m' y) (s2.back b) x3⟩
/-- a pure def that may raise, called beside cells -/
theorem evw_pure {ta : TA} {R0 : List DV → Out → Prop} {ds : List DV} {o : Out} (ha : EvAU K ta ρ m ds m) (hR : R0 ds o) (hv : ∀ d, o = .val d → R d m) (hz : ∀ C gs, o = .exc C gs → Z ρ C gs m) : EvW K (fun W => tCallS (spZ K R0) (WE W) ta) ρ m R Z := fun S0 H0 B σ S H W s z Q q =>
  ha S0 H0 B σ S H s _ fun vs S2 H2 s2 e2 r2 => ⟨S2, ds, o, s2.g.sub, r2, hR, fun d e v S3 H3 g3 r3 => q d m v S3 H3 (hv d e) (s2.go g3) (e2.tr g3.s) r3, fun C gs cls d S3 H3 e g3 x3 => z C gs cls d ρ m σ S3 H3 (hz C gs e) (s2.go g3) x3⟩
/-- a new instance, beside cells -/
theorem Sm.cmade {S0 H0 B S H : Hp} {σ : L2.St} {L : Cels} {C x dx : Addr} (s : Sm K S0 H0 B σ S H ρ (cM K L)) (nx : H x = none) (ndx : H dx = none) (nex : dx ≠ x) : Sm K S0 H0 B σ S (upd (upd H dx (.own x)) x (.ins C dx [])) ρ (cM K (cu L x (.ins C []))) := by
  have s1 := s.junk (o := .own x) ndx
  exact s1.cnew (by rw [upd_ne (fun y => nex y.symm)]; exact nx) ⟨dx, [], upd_same, .nil⟩
theorem evw_make {ta : TA} {C : Addr} {ds : List DV} {A : Mo → List DV → (DV → Mo → Prop) → Zf → Prop} {R : Addr → Mo → Prop} {L : Cels} {F : Zf} (ha : EvAU K ta ρ m ds (cM K L)) (hA : ∀ x, L x = none → A (cM K (cu L x (.ins C []))) (.adr x :: ds) (fun d m' => d = .non ∧ R x m') F) (hz : ∀ C gs m', F C gs m' → Z ρ C gs m') : EvW K (fun W => tMakeY C (spW K A) (WE W) ta) ρ m (fun d m' => ∃ x, L x = none ∧ d = .adr x ∧ R x m') Z := fun S0 H0 B σ S H W s z Q q =>
  ha S0 H0 B σ S H s _ fun vs S1 H1 s1 e1 r1 => fun x dx nx ndx nex => by
    have nL : L x = none := by
      cases y : L x with
      | none => rfl
      | some c => exact absurd nx (s1.d.z x (by show L x ≠ none; rw [y]; exact fun w => by cases w)).2.2.2
    have s2 := s1.cmade (C := C) nx ndx nex
    refine ⟨S1, _, _, _, F, s2.g.sub, fun a z => ⟨(s2.d.z a z).2.2.1, (s2.d.z a z).2.2.2⟩, s2.d.p, .cons (.adr x) r1, hA x nL, fun d m' v S3 H3 ⟨ed, hR⟩ b r3 => ?_, fun C gs cls d m' S3 H3 y b x3 => z C gs cls d ρ m' σ S3 H3 (hz C gs m' y) (s2.back b) x3⟩
    subst ed
    cases r3
    exact ⟨rfl, q (.adr x) m' _ S3 H3 ⟨x, nL, rfl, hR⟩ (s2.back b) (e1.tr b.s) (.adr x)⟩
end
/-! ### cells written -/
section
variable {K : PySem.W.Frag} {ρ ρ' : Rho} {m m' : Mo} {te ta to : TE} {tz : WX → TE} {ts : TS} {E : Pm} {Z : Zw} {R : DV → Mo → Prop} {d : DV} {L : Cels} {C p : Addr} {gs : List (Str × DV)} {f : Str} {ds : List DV}
/-- o.f = e: e first -/
theorem stw_fld (c : Cls K C) (n : NoAttr K C f) (h : EvW K tz ρ m R Z) (ho : ∀ d m', R d m' → ∃ L p gs, EvU K to ρ m' (.adr p) (cM K L) ∧ L p = some (.ins C gs) ∧ gs.length < 900 ∧ E.nx ρ (cM K (cu L p (.ins C (putG f d gs))))) : StW K (fun W => sFld K to (tz W) f) ρ m E Z := fun S0 H0 B σ S H D W s ok z =>
  h S0 H0 B σ S H W s z _ fun d m' v S1 H1 hR s1 e1 r1 => by
    obtain ⟨L, p, gs, h2, hp, hl, q⟩ := ho d m' hR
    refine h2 S0 H0 B σ S1 H1 s1 _ fun w S2 H2 s2 e2 r2 => ?_
    cases r2
    obtain ⟨dx, fs, a, rf⟩ := s2.cel hp
    refine ⟨p, C, dx, fs, rfl, a, c, n, by rw [rpf_len rf]; omega, ?_⟩
    exact ok.nx ρ _ σ S2 _ q (s2.cput hp ⟨dx, _, upd_same, rpf_put (r1.up e2) rf⟩)
/-- a reading that makes a list that no slot names -/
def EvLW (K : PySem.W.Frag) (te : TE) (ρ : Rho) (m : Mo) (ds : List DV) (m' : Mo) : Prop := ∀ S0 H0 B σ S H, Sm K S0 H0 B σ S H ρ m → ∀ Q : VK, (∀ p vs S' H', Sm K S0 H0 B σ S' H' ρ m' → Ex S S' → S' p = none → mix m' H0 H' p = none → (∀ (i : Nat) (d : DV), ρ[i]? = some (.ownD d) → σ[i]? ≠ some (some (.ref p))) → H' p = some (.lst vs) → RpA K S' vs ds → Q (.ref p) H') → te σ H Q
theorem evlw_new {vs : List V} {S0 H0 B S1 H1 : Hp} {σ : L2.St} {l : Addr} (s1 : Sm K S0 H0 B σ S1 H1 ρ m') (hl : H1 l = none) : Sm K S0 H0 B σ S1 (upd H1 l (.lst vs)) ρ m' ∧ S1 l = none ∧ mix m' H0 (upd H1 l (.lst vs)) l = none ∧ ∀ (i : Nat) (d : DV), ρ[i]? = some (.ownD d) → σ[i]? ≠ some (some (.ref l)) := by
  have nd : ¬ m'.dom l := fun y => (s1.d.z l y).2.2.2 hl
  refine ⟨s1.go (Go.side s1.g.sub (Ex.new hl)), s1.g.sub.free hl, by rw [mix_out nd]; exact s1.h0 (.inr hl), fun i d a b => ?_⟩
  obtain ⟨p2, o2, c2, _, _, h2, _⟩ := s1.n.ownD a
  rw [b] at c2
  cases c2
  rw [hl] at h2
  cases h2
/-- list(x), x a list cell; x a list or tuple of data -/
theorem evlw_listC {l0 : Addr} (h : EvU K te ρ m (.adr l0) (cM K L)) (hl : L l0 = some (.lst ds)) : EvLW K (tCB (rListX K) (tCons te tNil)) ρ m ds (cM K L) := fun S0 H0 B σ S H s Q q =>
  h S0 H0 B σ S H s _ fun v S1 H1 s1 e1 r1 => by
    cases r1
    obtain ⟨vs, a, rv⟩ := s1.cel hl
    refine ⟨_, vs, rfl, .inl (.inl (.inl a)), fun l hn => ?_⟩
    obtain ⟨k1, k2, k3, k4⟩ := evlw_new (vs := vs) s1 hn
    exact q l vs S1 _ k1 e1 k2 k3 k4 upd_same rv
theorem evlw_listD {da : DV} (h : EvU K te ρ m da m') (hi : da.items = some ds) : EvLW K (tCB (rListX K) (tCons te tNil)) ρ m ds m' := fun S0 H0 B σ S H s Q q =>
  h S0 H0 B σ S H s _ fun v S1 H1 s1 e1 r1 => by
    obtain ⟨p, xs, rfl, hs, ra⟩ := items_rp hi r1
    refine ⟨p, xs, rfl, sq_up s1.g.sub hs, fun l hn => ?_⟩
    obtain ⟨k1, k2, k3, k4⟩ := evlw_new (vs := xs) s1 hn
    exact q l xs S1 _ k1 e1 k2 k3 k4 upd_same ra
/-- o.f = a new list: it becomes a cell -/
theorem stm_fldL (c : Cls K C) (n : NoAttr K C f) (h : EvLW K te ρ m ds (cM K L)) (ho : ∀ {L' : Cels}, (∀ q c, L q = some c → L' q = some c) → EvU K to ρ (cM K L') (.adr p) (cM K L')) (hp : L p = some (.ins C gs)) (hl : gs.length < 900) (q : ∀ l, L l = none → E.nx ρ (cM K (cu (cu L l (.lst ds)) p (.ins C (putG f (.adr l) gs))))) : StM K (sFld K to te f) ρ m E := fun S0 H0 B σ S H D s ok =>
  h S0 H0 B σ S H s _ fun l vs S1 H1 s1 e1 n1 n2 n3 h1 r1 => by
    -- the new list as a cell
    have nd : ¬ (cM K L).dom l := fun z => by
      rw [mix_in z, h1] at n2
      cases n2
    have nL : L l = none := Classical.byContradiction nd
    have hn : L p ≠ none := by rw [hp]; exact fun y => by cases y
    have npl : p ≠ l := fun z => by rw [z, nL] at hn; exact hn rfl
    have s2 : Sm K S0 H0 B σ S1 H1 ρ (cM K (cu L l (.lst ds))) := by
      have dm : ∀ q, q ≠ l → ((cM K (cu L l (.lst ds))).dom q ↔ (cM K L).dom q) := fun q w => by
        show cu L l _ q ≠ none ↔ L q ≠ none
        rw [cu_ne w]
      have dl : (cM K (cu L l (.lst ds))).dom l := by
        show cu L l _ l ≠ none
        rw [cu_same]
        exact fun y => by cases y
      have n0 : H0 l = none := by rw [mix_out nd] at n2; exact n2
      have mx : ∀ q, q ≠ l → mix (cM K (cu L l (.lst ds))) H0 H1 q = mix (cM K L) H0 H1 q := fun q w => by
        by_cases y : (cM K L).dom q
        · rw [mix_in y, mix_in ((dm q w).mpr y)]
        · rw [mix_out y, mix_out fun z => y ((dm q w).mp z)]
      have nS0 : S0 l = none := by
        cases z : S0 l with
        | none => rfl
        | some u => have := s1.g.s l u z; rw [n1] at this; cases this
      refine ⟨⟨s1.g.s, fun a u y => ?_, s1.g.sub, fun a u y w => ?_⟩, s1.b, ⟨s1.n.len, fun i v x a b => ?_, s1.n.sep⟩, ⟨fun q y => ?_, fun q x y => ?_⟩⟩
      · by_cases w : a = l
        · rw [w, mix_in dl] at y; rw [w]; exact y
        · rw [mx a w] at y
          exact s1.g.h a u y
      · have w' : a ≠ l := fun z => by rw [z, n1] at y; cases y
        rw [mx a w']
        exact s1.g.new a u y w
      · have k1 := s1.n.at_ i v x a b
        cases x with
        | un => trivial
        | exo _ _ _ => exact k1
        | val d => exact k1
        | ownD d =>
          obtain ⟨p', o', k2, k3, k4, k5, k6⟩ := k1
          have w : p' ≠ l := fun z => by
            rw [k2, z] at a
            exact n3 i d b a
          exact ⟨p', o', k2, by rw [mx p' w]; exact k3, k4, k5, k6⟩
      · by_cases w : q = l
        · rw [w]; exact ⟨n0, nS0, n1, by rw [h1]; exact fun y => by cases y⟩
        · exact s1.d.z q ((dm q w).mp y)
      · by_cases w : q = l
        · subst w
          rw [cu_same] at y
          cases y
          exact ⟨vs, h1, r1⟩
        · rw [cu_ne w] at y
          exact s1.d.p q x y
    have sub : ∀ q c, L q = some c → cu L l (.lst ds) q = some c := fun q c e => by
      have w : q ≠ l := fun z => by rw [z, nL] at e; cases e
      rw [cu_ne w]
      exact e
    refine ho sub S0 H0 B σ S1 H1 s2 _ fun w S2 H2 s3 e2 r2 => ?_
    cases r2
    have hp2 := sub p _ hp
    obtain ⟨dx, fs, a, rf⟩ := s3.cel hp2
    refine ⟨p, C, dx, fs, rfl, a, c, n, by rw [rpf_len rf]; omega, ?_⟩
    exact ok.nx ρ _ σ S2 _ (q l nL) (s3.cput hp2 ⟨dx, _, upd_same, rpf_put (.adr l) rf⟩)
/-- x.append(e), x a list cell -/
theorem stm_capp {l : Addr} (h : EvU K ta ρ m (.adr l) (cM K L)) (hl : L l = some (.lst ds)) (he : EvU K te ρ (cM K L) d (cM K L)) (hn : ds.length < 100000) (q : E.nx ρ (cM K (cu L l (.lst (ds ++ [d]))))) : StM K (tDrop (tBM K "list" rAppend ta (tCons te tNil))) ρ m E := fun S0 H0 B σ S H D s ok =>
  h S0 H0 B σ S H s _ fun v S1 H1 s1 e1 r1 => by
    cases r1
    obtain ⟨vs, a, rv⟩ := s1.cel hl
    refine ⟨.inl ⟨rfl, vs, .inl (.inl a)⟩, he S0 H0 B σ S1 H1 s1 _ fun w S2 H2 s2 e2 r2 => ?_⟩
    obtain ⟨vs2, a2, rv2⟩ := s2.cel hl
    refine ⟨l, vs2, w, rfl, rfl, a2, Nat.lt_of_lt_of_le (by rw [rv2.len]; exact hn) (by decide), ?_⟩
    exact ok.nx ρ _ σ S2 _ q (s2.cput hl ⟨_, upd_same, rv2.snoc r2⟩)
end
end PD

/-! The same by syntax. -/
namespace PD
open PySem PySem.Spec PyProof.Rows L2 LamX
section
variable (g : Gb) (l : Lc)
def DEW (e : Expr) (ρ : Rho) (m : Mo) (R : DV → Mo → Prop) (Z : Zw) : Prop := EvW g.K (UEZ g l e) ρ m R Z
def DSW (st : Stmt) (ρ : Rho) (m : Mo) (E : Pm) (Z : Zw) : Prop := StW g.K (USZ g l st) ρ m E Z
def DSsW (sts : List Stmt) (ρ : Rho) (m : Mo) (E : Pm) (Z : Zw) : Prop := StW g.K (USsZ g l sts) ρ m E Z
def DAM (es : List Expr) (ρ : Rho) (m : Mo) (ds : List DV) (m' : Mo) : Prop := EvAU g.K (UA g l es) ρ m ds m'
end
section
variable {g : Gb} {l : Lc} {ρ ρ' : Rho} {m m' m2 : Mo} {a c e o : Expr} {es : List Expr} {st : Stmt} {sts body orelse : List Stmt} {E : Pm} {Z : Zw} {R R' : DV → Mo → Prop} {C CS p : Addr} {b : Bool} {pos apos p1 p2 p3 p4 py cpos : Pos} {n f nm : Str} {d : DV} {ds : List DV} {L : Cels} {gs : List (Str × DV)} {i : Nat}
theorem DEW.by (t : WX → TE) (h : ∀ X W, OfZ g l X W → PE X e (t W)) (v : EvW g.K t ρ m R Z) : DEW g l e ρ m R Z := fun S0 H0 B σ S H W s z Q q => ⟨t W, fun X ok => h X W ok, v S0 H0 B σ S H W s z Q q⟩
theorem DSW.by (t : WX → TS) (h : ∀ X W, OfZ g l X W → PS X st (t W)) (v : StW g.K t ρ m E Z) : DSW g l st ρ m E Z := fun S0 H0 B σ S H D W s k z => ⟨t W, fun X ok => h X W ok, v S0 H0 B σ S H D W s k z⟩
theorem DSsW.by (t : WX → TS) (h : ∀ X W, OfZ g l X W → PSs X sts (t W)) (v : StW g.K t ρ m E Z) : DSsW g l sts ρ m E Z := fun S0 H0 B σ S H D W s k z => ⟨t W, fun X ok => h X W ok, v S0 H0 B σ S H D W s k z⟩
theorem DAM.by (t : TA) (h : ∀ X, Of g l X → PA X es t) (v : EvAU g.K t ρ m ds m') : DAM g l es ρ m ds m' := fun S0 H0 B σ S H s Q q => ⟨t, h, v S0 H0 B σ S H s Q q⟩
theorem dam_nil : DAM g l [] ρ m [] m := .by _ (fun X o => pa_nil) eau_nil
theorem dam_of (h : DA g l es ρ ds) : DAM g l es ρ m ds m := .by _ (fun X o => UA.pa o es) (eau_of h)
theorem dam_cons (h : DEM g l e ρ m d m') (hr : DAM g l es ρ m' ds m2) (he : ∀ env, starEach (e :: es) env = (false, eval e env) :: starEach es env := by intro _; rfl) : DAM g l (e :: es) ρ m (d :: ds) m2 := .by _ (fun X o => pa_cons (UE.pe o e) (UA.pa o es) (he _)) (eau_cons h hr)
theorem DEW.of (h : DER g l e ρ m R) : DEW g l e ρ m R Z := .by (fun _ => UE g l e) (fun X W o => UE.pe o.o e) (EvW.of h)
theorem DEW.ofm (h : DEM g l e ρ m d m') : DEW g l e ρ m (fun d' m2 => d' = d ∧ m2 = m') Z := .of (EvU.r h)
theorem DSW.of (h : DSM g l st ρ m E) : DSW g l st ρ m E Z := .by (fun _ => US g l st) (fun X W o => US.ps o.o st) (StW.of h)
theorem DSsW.of (h : DSsM g l sts ρ m E) : DSsW g l sts ρ m E Z := .by (fun _ => USs g l sts) (fun X W o => USs.pss o.o sts) (StW.of h)
theorem dssw_nil (h : E.nx ρ m) : DSsW g l [] ρ m E Z := .of (dssm_nil h)
theorem dssw_cons (h : DSW g l st ρ m { E with nx := fun ρ' m' => DSsW g l sts ρ' m' E Z } Z) : DSsW g l (st :: sts) ρ m E Z := .by _ (fun X W o => pss_cons (USZ.ps o st) (USsZ.pss o sts)) (stw_seq h)
theorem dssw_one (h : DSW g l st ρ m E Z) : DSsW g l [st] ρ m E Z := .by _ (fun X W o => pss_one (USZ.ps o st)) h
theorem dsw_if (h : DTM g l c ρ m b m') (h1 : b = true → DSsW g l body ρ m' E Z) (h2 : b = false → DSsW g l orelse ρ m' E Z) : DSW g l (.If c body orelse pos) ρ m E Z := .by _ (fun X W o => ps_if (UT.pt o.o c) (USsZ.pss o body) (USsZ.pss o orelse)) (stw_if h h1 h2)
theorem dsw_set (i : Nat) (nd : l.N.Nodup) (h : DEW g l e ρ m R Z) (q : ∀ d m', R d m' → E.nx (ρ.set i (.val d)) m') (hN : l.N[i]? = some n := by rfl) (hx : Loc l.sc n := by first | exact Or.inl rfl | exact Or.inr rfl) (hf : l.fn n = true ∨ l.sc.names.lookup n = some .local := by first | exact .inl rfl | exact .inr rfl)
    (hs : ∀ env, swapsWith e (some (.Name n py)) pos.line env = pure false := by intro _; rfl) : DSW g l (.Assign [.Name n py] e pos) ρ m E Z :=
  .by _ (fun X W o => ps_set (i := i) (by rw [o.o.N]; exact nd) (by rw [o.o.N]; exact hN) (by rw [o.o.sc]; exact hx) (UEZ.pe o e) (hs _) (by rcases hf with h | h; exact .inl (o.o.fn _ h); exact .inr (by rw [o.o.sc]; exact h))) (stw_asg h q)
theorem dsw_ex (h : DEW g l e ρ m R Z) (q : ∀ d m', R d m' → E.nx ρ m') (hs : ∀ env, swapsWith e none pos.line env = pure false := by intro _; rfl) : DSW g l (.Expr e pos) ρ m E Z := .by _ (fun X W o => ps_expr (UEZ.pe o e) (hs _)) (stw_drop h q)
theorem dsw_ret (h : DEW g l e ρ m R Z) (q : ∀ d m', R d m' → E.rt d m') : DSW g l (.Return (some e) pos) ρ m E Z := .by _ (fun X W o => ps_ret (UEZ.pe o e)) (stw_ret h q)
theorem dsw_raise0 {x : Str} {j : Nat} (c : Xc g C n) (q : Z ρ C [] m) (hg : GlN l n := by rfl) (hdb : (n == ("__debug__" : Str)) = false := by decide) (hcl : l.cb = true := by rfl) : DSW g l (.Raise (some (.Call (.Name n p1) [.Constant (.str x) j p2] [] p3)) none pos) ρ m E Z := by
  obtain ⟨hm, kp, sub, ty, B, newId, initId, bmB, F, hx⟩ := c
  exact .by _ (fun X W oz => have o := oz.o; ps_raise (o.calm hcl) oz.tk (pmk_own F (by rw [o.K]; exact hx) (by rw [o.mg]; exact hm) (by rw [o.K]; exact kp) (raises_own (by rw [o.K]; exact sub) (by rw [o.K]; exact ty)) (o.gl hg) hdb)) (stw_raise0 q)
end
/-- a def, a method, an __init__, whatever its outcome -/
abbrev Aw := Mo → List DV → (DV → Mo → Prop) → Zf → Prop
structure MeW (g : Gb) (k : Nat) (CS : Addr) (n : Str) (A : Aw) : Prop where
  ex : ∃ f, Meth g.K CS n f ∧ ∃ fd ps, FnOk g.P g.w g.K g.mg g.base (L2.CX g.P g.w) k f fd ps (spW g.K A) ∧ L2.Binds g.K fd ps []
structure MkW (g : Gb) (k : Nat) (C : Addr) (x : Str) (A : Aw) : Prop where
  mg : g.mg x = some (.ref C)
  ex : ∃ f fd ps, Mk g.K C f ∧ FnOk g.P g.w g.K g.mg g.base (L2.CX g.P g.w) k f fd ps (spW g.K A) ∧ L2.Binds g.K fd ps []
theorem insAt_c {K : PySem.W.Frag} {L : Cels} {p C : Addr} {gs : List (Str × DV)} {n : Str} (h : L p = some (.ins C gs)) (hn : gs.lookup n = none) : InsAt (cM K L) p C n := fun S H k => by
  obtain ⟨dx, fs, a, r⟩ := k p _ h
  exact ⟨dx, fs, a, r.no hn⟩
section
variable {g : Gb} {l : Lc} {ρ ρ' : Rho} {m m' : Mo} {a c e o : Expr} {es : List Expr} {st : Stmt} {sts body orelse : List Stmt} {E : Pm} {Z : Zw} {F : Zf} {R R' : DV → Mo → Prop} {C CS p : Addr} {b : Bool} {pos apos cp p1 p2 p3 p4 py : Pos} {n f nm : Str} {d : DV} {ds : List DV} {L : Cels} {gs : List (Str × DV)} {i k : Nat} {A : Aw} {R0 : List DV → Out → Prop} {ou : Out}
theorem dew_meth {pl : Env → Sem Bool} (c : Cls g.K CS) (M : MeW g k CS n A) (hI : InsAt m p CS n) (h : DEM g l o ρ m (.adr p) m) (ha : DAM g l (e :: es) ρ m ds m) (hA : A m (.adr p :: ds) R F) (hz : ∀ C gs m', F C gs m' → Z ρ C gs m') (hk : k ≤ l.k := by decide)
    (hst : ∀ env, starEach (e :: es) env = (false, eval e env) :: starEach es env := by intro _; rfl) (hpl : ∀ env, (backTo pos (starEach es env)).any (·.1) = false := by intro _; rfl)
    (ht : ∀ env, eval (.Call (.Attribute o n apos) (e :: es) [] pos) env = (do
      let ov ← eval o env; standAt apos.atName; let (f, first) ← holding [ov] (getMethod ov n (pl env)); callWith pos f first (backTo pos (starEach (e :: es) env)) (backToKw pos (keywordEach [] env))) := by intro _; rfl) (hcl : l.cb = true := by rfl) : DEW g l (.Call (.Attribute o n apos) (e :: es) [] pos) ρ m R Z := by
  obtain ⟨f, hm, fd, ps, ok, hb⟩ := M.ex
  exact .by (fun W => tMethZ CS n (spW g.K A) (WE W) (UE g l o) (UA g l (e :: es))) (fun X W oz => have w := oz.o; pe_methZ (pl := pl _) (CX := L2.CX X.prog X.w) (k := k) (UE.pe w o) (by rw [w.K]; exact c) (by rw [w.K]; exact hm) (by rw [w.prog, w.w, w.K, w.mg, w.base]; exact ok) ((w.room hcl).mono hk) (by rw [w.K]; exact hb) (fun σ => passAt oz.tk σ) (UA.pa w _) (hst _) (hpl _) (ht _)) (evw_meth hI h ha hA hz)
theorem dew_meth0 {pl : Env → Sem Bool} (c : Cls g.K CS) (M : MeW g k CS n A) (hI : InsAt m p CS n) (h : DEM g l o ρ m (.adr p) m) (hA : A m [.adr p] R F) (hz : ∀ C gs m', F C gs m' → Z ρ C gs m') (hk : k ≤ l.k := by decide)
    (ht : ∀ env, eval (.Call (.Attribute o n apos) [] [] pos) env = (do
      let ov ← eval o env; standAt apos.atName; let (f, first) ← holding [ov] (getMethod ov n (pl env)); callWith pos f first (backTo pos (starEach [] env)) (backToKw pos (keywordEach [] env))) := by intro _; rfl) (hcl : l.cb = true := by rfl) : DEW g l (.Call (.Attribute o n apos) [] [] pos) ρ m R Z := by
  obtain ⟨f, hm, fd, ps, ok, hb⟩ := M.ex
  exact .by (fun W => tMethZ CS n (spW g.K A) (WE W) (UE g l o) tNil) (fun X W oz => have w := oz.o; pe_methZ0 (pl := pl _) (CX := L2.CX X.prog X.w) (k := k) (UE.pe w o) (by rw [w.K]; exact c) (by rw [w.K]; exact hm) (by rw [w.prog, w.w, w.K, w.mg, w.base]; exact ok) ((w.room hcl).mono hk) (by rw [w.K]; exact hb) (fun σ => passAt oz.tk σ) (ht _)) (evw_meth hI h eau_nil hA hz)
theorem dew_make {R : Addr → Mo → Prop} (M : MkW g k C n A) (ha : DAM g l (e :: es) ρ m ds (cM g.K L)) (hA : ∀ x, L x = none → A (cM g.K (cu L x (.ins C []))) (.adr x :: ds) (fun d m' => d = .non ∧ R x m') F) (hz : ∀ C gs m', F C gs m' → Z ρ C gs m') (hk : k + 1 ≤ l.k := by decide) (hg : GlN l n := by rfl) (hdb : (n == ("__debug__" : Str)) = false := by decide)
    (he : ∀ env, starEach (e :: es) env = (false, eval e env) :: starEach es env := by intro _; rfl) (hpl : ∀ env, (backTo pos (starEach es env)).any (·.1) = false := by intro _; rfl) (hcl : l.cb = true := by rfl) : DEW g l (.Call (.Name n cp) (e :: es) [] pos) ρ m (fun d m' => ∃ x, L x = none ∧ d = .adr x ∧ R x m') Z := by
  obtain ⟨hmg, f, fd, ps, mk, ok, hb⟩ := M
  exact .by (fun W => tMakeY C (spW g.K A) (WE W) (UA g l (e :: es))) (fun X W oz => have o := oz.o; pe_makeY (CX := L2.CX X.prog X.w) (k := k) (by rw [o.K]; exact mk) (by rw [o.prog, o.w, o.K, o.mg, o.base]; exact ok) ((o.room hcl).mono hk) (o.gl hg) (by rw [o.mg]; exact hmg) (by rw [o.K]; exact hb) (fun σ => passAt oz.tk σ) (UA.pa o _) hdb (he _) (hpl _)) (evw_make ha hA hz)
/-- a pure def that may raise -/
theorem dew_callZ (M : FnZ g k n R0) (ha : DAM g l (e :: es) ρ m ds m) (hR : R0 ds ou) (hv : ∀ d, ou = .val d → R d m) (hz : ∀ C gs, ou = .exc C gs → Z ρ C gs m) (hk : k ≤ l.k := by decide) (hg : GlN l n := by rfl) (hdb : (n == ("__debug__" : Str)) = false := by decide)
    (he : ∀ env, starEach (e :: es) env = (false, eval e env) :: starEach es env := by intro _; rfl) (hpl : ∀ env, (backTo pos (starEach es env)).any (·.1) = false := by intro _; rfl) (hcl : l.cb = true := by rfl) : DEW g l (.Call (.Name n cp) (e :: es) [] pos) ρ m R Z := by
  obtain ⟨f, fd, ps, ok, hm, hkp, hb⟩ := M.ex
  exact .by (fun W => tCallS (spZ g.K R0) (WE W) (UA g l (e :: es))) (fun X W oz => have o := oz.o; pe_callS (CX := L2.CX X.prog X.w) (k := k) (E := WE W) (by rw [o.prog, o.w, o.K, o.mg, o.base]; exact ok) ((o.room hcl).mono hk) (o.gl hg) (by rw [o.mg]; exact hm) (by rw [o.K]; exact hkp) (by rw [o.K]; exact hb) (fun σ => passAt oz.tk σ) (UA.pa o _) hdb (he _) (hpl _)) (evw_pure ha hR hv hz)
/-! what cells give -/
theorem dem_fld (c : Cls g.K C) (hn : NoAttr g.K C f) (h : DEM g l e ρ m (.adr p) (cM g.K L)) (hp : L p = some (.ins C gs)) (hl : gs.lookup f = some d) (hab : ∀ env, attributeBase e f env (eval e env) = eval e env := by intro _; rfl) : DEM g l (.Attribute e f pos) ρ m d (cM g.K L) :=
  .by (tFld g.K (UE g l e) f) (fun X o => by have := pe_fld (f := f) (pos := pos) (UE.pe o e) (hab _); rw [o.K] at this; exact this) (evu_fld c hn h hp hl)
theorem dem_tup (h : DAM g l es ρ m ds m') (hl : ds.length ≤ 100000 := by first | decide | simp) : DEM g l (.Tuple es i pos) ρ m (.tup ds) m' := .by _ (fun X o => pe_tup (UA.pa o es)) (evu_tup h hl)
theorem dem_ixT {xs : List DV} {j : Int} (h : atI xs j = some d) (ha : DEM g l a ρ m (.tup xs) m') (hb : DE g l e ρ (.int j)) (hs : PlainIx e := by exact fun _ _ => rfl) : DEM g l (.Subscript a e pos) ρ m d m' :=
  .by _ (fun X o => pe_ix (by have := ix_tup (X := X); rw [o.K] at this; exact this) (UE.pe o a) (UE.pe o e) hs) (evu_op ha hb (od_ixT h))
/-! cells written -/
theorem dsw_fld (c : Cls g.K C) (n : NoAttr g.K C f) (h : DEW g l e ρ m R Z) (ho : ∀ d m', R d m' → ∃ L p gs, DEM g l o ρ m' (.adr p) (cM g.K L) ∧ L p = some (.ins C gs) ∧ gs.length < 900 ∧ E.nx ρ (cM g.K (cu L p (.ins C (putG f d gs))))) (hs : ∀ env, swapsWith e (some (.Attribute o f p2)) pos.line env = pure false := by intro _; rfl) : DSW g l (.Assign [.Attribute o f p2] e pos) ρ m E Z :=
  .by (fun W => sFld g.K (UE g l o) (UEZ g l e W) f) (fun X W x => by
    have := ps_fld (X := X) (o := o) (f := f) (pos' := p2) (pos := pos) (UE.pe x.o o) (UEZ.pe x e) (hs _)
    rw [x.o.K] at this
    exact this) (stw_fld c n h ho)
def DLW (g : Gb) (l : Lc) (e : Expr) (ρ : Rho) (m : Mo) (ds : List DV) (m' : Mo) : Prop := EvLW g.K (UE g l e) ρ m ds m'
theorem DLW.by (t : TE) (h : ∀ X, Of g l X → PE X e t) (v : EvLW g.K t ρ m ds m') : DLW g l e ρ m ds m' := fun S0 H0 B σ S H s Q q => ⟨t, h, v S0 H0 B σ S H s Q q⟩
theorem dlw_listC {lc : Addr} (hm : g.mg "list" = none) (h : DEM g l e ρ m (.adr lc) (cM g.K L)) (hl : L lc = some (.lst ds)) (hg : GlN l "list" := by rfl) (hs : ∀ env, starEach [e] env = [(false, eval e env)] := by intro _; rfl) : DLW g l (.Call (.Name "list" cp) [e] [] pos) ρ m ds (cM g.K L) :=
  .by (tCB (rListX g.K) (tCons (UE g l e) tNil)) (fun X o => pe_callTy (by have := call_list_of (X := X); rw [o.K] at this; exact this) (o.gl hg) (by rw [o.mg]; exact hm) (by decide +kernel) (pa_cons (UE.pe o e) pa_nil (by rw [hs]; rfl)) (by decide) (by decide) (by rw [hs]; rfl) (by rfl)) (evlw_listC h hl)
theorem dlw_listD {da : DV} (hm : g.mg "list" = none) (h : DEM g l e ρ m da m') (hi : da.items = some ds) (hg : GlN l "list" := by rfl) (hs : ∀ env, starEach [e] env = [(false, eval e env)] := by intro _; rfl) : DLW g l (.Call (.Name "list" cp) [e] [] pos) ρ m ds m' :=
  .by (tCB (rListX g.K) (tCons (UE g l e) tNil)) (fun X o => pe_callTy (by have := call_list_of (X := X); rw [o.K] at this; exact this) (o.gl hg) (by rw [o.mg]; exact hm) (by decide +kernel) (pa_cons (UE.pe o e) pa_nil (by rw [hs]; rfl)) (by decide) (by decide) (by rw [hs]; rfl) (by rfl)) (evlw_listD h hi)
theorem dsm_fldL (c : Cls g.K C) (n : NoAttr g.K C f) (h : DLW g l e ρ m ds (cM g.K L)) (ho : ∀ {L' : Cels}, (∀ q c, L q = some c → L' q = some c) → DEM g l o ρ (cM g.K L') (.adr p) (cM g.K L')) (hp : L p = some (.ins C gs)) (hl : gs.length < 900) (q : ∀ l, L l = none → E.nx ρ (cM g.K (cu (cu L l (.lst ds)) p (.ins C (putG f (.adr l) gs))))) (hs : ∀ env, swapsWith e (some (.Attribute o f p2)) pos.line env = pure false := by intro _; rfl) : DSM g l (.Assign [.Attribute o f p2] e pos) ρ m E :=
  DSM.by (sFld g.K (UE g l o) (UE g l e) f) (fun X x => by
    have := ps_fld (X := X) (o := o) (f := f) (pos' := p2) (pos := pos) (UE.pe x o) (UE.pe x e) (hs _)
    rw [x.K] at this
    exact this) (stm_fldL c n h ho hp hl q)
theorem dsm_capp {lc : Addr} (h : DEM g l o ρ m (.adr lc) (cM g.K L)) (hl : L lc = some (.lst ds)) (he : DEM g l e ρ (cM g.K L) d (cM g.K L)) (hn : ds.length < 100000) (q : E.nx ρ (cM g.K (cu L lc (.lst (ds ++ [d])))))
    (hst : ∀ env, starEach [e] env = [(false, eval e env)] := by intro _; rfl)
    (hbase : ∀ env, attributeBase o ("append" : Str) env (eval o env) = eval o env := by intro _; rfl)
    (hfew : ∀ env, ((backTo cp (starEach [e] env)).all (fun x => !x.1) && (backToKw cp (keywordEach [] env)).all (fun x => x.1.isSome) && decide (([e] : List Expr).length + ([] : List Keyword).length + (if ([] : List Keyword).isEmpty then 0 else 1) < 30)) = true := by intro _; rfl)
    (hline : (apos.endLine == cp.line) = true := by rfl) (hsw : ∀ env, swapsWith (.Call (.Attribute o "append" apos) [e] [] cp) none pos.line env = pure false := by intro _; rfl) : DSM g l (.Expr (.Call (.Attribute o "append" apos) [e] [] cp) pos) ρ m E :=
  DSM.by (tDrop (tBM g.K "list" rAppend (UE g l o) (tCons (UE g l e) tNil))) (fun X x => by
    have he : PE X (.Call (.Attribute o "append" apos) [e] [] cp) (tBM X.K "list" rAppend (UE g l o) (tCons (UE g l e) tNil)) :=
      pe_bm PySem.F.plainAttrs_list PySem.F.slot_list_append PySem.F.type_list_append mt_append (UE.pe x o) (pa_cons (UE.pe x e) pa_nil (by rw [hst]; rfl)) (hbase _) (hfew _) hline (by rw [hst]; rfl) (by rfl)
    rw [x.K] at he
    exact ps_expr he (hsw _)) (stm_capp h hl he hn q)
end
/-! ### defs -/
section
variable {g : Gb} {x qual : Str} {st : Stmt} {f : Addr} {fd : FuncData} {N ps : List Str} {k : Nat}
theorem fn_okW {A : Aw} (F : Fun g.K x qual st f fd) (S : FnScope N ps (defScope st)) (len : ∀ m ds R Z, A m ds R Z → ds.length = ps.length)
    (body : ∀ m ds R Z, A m ds R Z → DSsW g ⟨k, N, defScope st, fun _ => true, true, none⟩ (defBody st) (rho0 N ds) m { nx := fun _ m' => R .non m', rt := R } fun _ => Z) : FnOk g.P g.w g.K g.mg g.base (L2.CX g.P g.w) (k + 1) f fd ps (spW g.K A) := by
  refine F.okX S (fun vs H Q E ⟨S0, m, ds, R, Z, e, _, _, ra, hA, _⟩ => by rw [ra.len]; exact len m ds R Z hA) (fun cdv A' outer s H vs Q E hr ⟨S0, m, ds, R, Z, e, hz, hp, ra, hA, q, z⟩ => ?_)
  refine ⟨USsZ g ⟨k, N, defScope st, fun _ => true, true, none⟩ (defBody st) (fun cls d _ H => E cls d H), USsZ.pss ⟨⟨rfl, rfl, rfl, rfl, rfl, rfl, rfl, fun _ _ => rfl, fun _ => rfl, fun _ => hr, hr.un, fun _ => passes_of rfl, fun _ _ _ h => by cases h⟩, takes_of rfl rfl rfl rfl, rfl, rfl⟩ _, ?_⟩
  refine body m ds R Z hA S0 (hidM m H) S0 _ S0 H _ _ ⟨by rw [mix_hid]; exact Go.rf e, Ex.rf _, en_start ra, ⟨fun q y => ⟨hidM_in y, (hz q y).1, (hz q y).1, (hz q y).2⟩, hp⟩⟩ ⟨fun ρ m' σ S1 H1 y s1 => ?_, fun d m' v S1 H1 y r1 => ?_, fun _ _ _ _ _ z => z.elim, fun _ _ _ _ _ z => z.elim⟩ fun C gs cls d ρ m' σ S1 H1 hz s1 x1 => z C gs cls d m' S1 H1 hz (bk_of s1.g s1.d) x1
  · exact q .non m' .non S1 H1 y (bk_of s1.g s1.d) .non
  · exact q d m' v S1 H1 y (bk_of r1.go r1.md) r1.rp
/-- where nothing is raised, it is a promise of a value -/
theorem FnOk.noW {P : Program} {w : World} {K : PySem.W.Frag} {mg : Str → Option Value} {base : Heap} {k : Nat} {f : Addr} {fd : FuncData} {ps : List Str} {A : Aw} (F : FnOk P w K mg base (L2.CX P w) k f fd ps (spW K A)) : FnOk P w K mg base CX0 k f fd ps (spM K fun m ds R => A m ds R fun _ _ _ => False) where
  len := fun vs H Q E ⟨S, m, ds, R, e, hz, hp, r, hA, q⟩ => F.len vs H Q (fun _ _ _ => False) ⟨S, m, ds, R, _, e, hz, hp, r, hA, q, fun _ _ _ _ _ _ _ h => h.elim⟩
  run := fun A' outer s H args us vs Q E hr he hb hv ⟨S, m, ds, R, e, hz, hp, r, hA, q⟩ => codeAny_mono (F.run A' outer s H args us vs Q (fun _ _ _ => False) hr he hb hv ⟨S, m, ds, R, _, e, hz, hp, r, hA, q, fun _ _ _ _ _ _ _ h => h.elim⟩) fun x s' h => by
    cases x with
    | error u =>
      obtain ⟨_, _, _, _, _, _, _, _, _, _, _, _, h⟩ := h
      exact h.elim
    | ok fl => cases fl <;> exact h
end
end PD

/-! f(lambda x: .., e), where x may be a name of the maker's too: its slot is forgotten within. -/
namespace PD
open PySem PySem.Spec PyProof.Rows L2 LamX
section
variable {X : Cx} {pins : List (Addr × Obj)} {σ : L2.St} {H HZ : Hp} {s s1 : Shared} {scope : Scope} {it : Str}
theorem lam_startW {vs : List Nat} {A : Around} {outer : List Env} {E : XK} {f c' : Addr} {h₁ : Heap} {tk : Nat} {v : V} {u : Value} (I : Inv X pins σ H s) (L : LamS1 X.env.scope scope it) (hN : ∀ i, X.N[i]? = some it → i ∈ vs) (e0 : Env0 X.prog X.w X.K X.mg X.base A outer s1 HZ) (hd : A.handled = none)
    (un : Un (frs X.stack) [] H HZ s.heap s1.heap) (hns : h₁.Ns s1.heap.objs.size fun y => ([(it, u)] : List (Str × Value)).reverse.lookup y) (kp : ∀ b o, s1.heap.get? b = some o → h₁.get? b = some o) (rv : RelV v u) :
    Inv (lamCx1 X A outer s1 HZ E scope f c' it) [] (wipe σ vs ++ [some v]) HZ { s1 with heap := h₁, toks := tk } := by
  have cellK : ∀ {c : Addr} {v : Option Value}, H c = none → s.heap.IsCell c v → h₁.IsCell c v := fun {c v} n ⟨o, ho, hd⟩ =>
    let ⟨_, q⟩ := un.any ho n (by simp)
    ⟨_, kp _ _ q, hd⟩
  have noA : ∀ b : Addr, b ∉ (lamCx1 X A outer s1 HZ E scope f c' it).ex := fun b z => nomatch (show b ∈ ([] : List Addr) from z)
  have sees : ∀ {y : Str}, scope.names.lookup y = some .free → Vis X.env.scope y := fun {y} k => (L.free _ (PySem.mem_of_lookup k) rfl).elim (fun k => .inr (.inl k)) fun k => .inr (.inr k)
  exact {
    ok := {
      mod := e0.mod, kind := L.kind, glob := rfl, blt := rfl, above := Nat.le_refl _
      inj := fun y z c e1 e2 => I.ok.inj y z c (clo_same L I.ok e1) (clo_same L I.ok e2)
      has := fun y hy => by
        have hy : scope.names.lookup y = some .cell ∨ scope.names.lookup y = some .free := hy
        rcases hy with hy | hy
        · exact absurd rfl (L.own _ (PySem.mem_of_lookup hy)).2
        · exact clo_has hy
      cab := fun y c z _ => nomatch (show false = true from z)
      hd := fun _ => hd
      frames := Around.frames_deeper e0.frames
      stk := .inr ⟨rfl, rfl⟩
      exf := fun b z => absurd z (noA b)
      bs := e0.bs, bsz := e0.bsz
      noex := fun b _ _ => noA b
      exfs := fun b z => absurd z (noA b)
      funs := e0.funs, frf := e0.frf }
    os := rfl
    bare := e0.bare
    base := Un.kept kp
    loc := ⟨_, hns, fun i y w e1 e2 e3 => by
      have e1 : (X.N ++ [it])[i]? = some y := e1
      have e3 : Vis scope y := e3
      by_cases hi : i < X.N.length
      · rw [List.getElem?_append_left hi] at e1
        rw [List.getElem?_append_left (by rw [wipe_length, I.len]; exact hi)] at e2
        obtain ⟨e2, niv⟩ := wipe_some e2
        rcases e3 with k | k | k
        · have ey : y = it := (L.own _ (PySem.mem_of_lookup k)).1 rfl
          rw [ey] at e1
          exact absurd (hN i e1) niv
        · exact absurd rfl (L.own _ (PySem.mem_of_lookup k)).2
        · obtain ⟨m, hn, hl⟩ := I.loc
          obtain ⟨w', r, q⟩ := hl i y w e1 e2 (sees k)
          obtain ⟨c2, h2⟩ := clo_has (X := X) k
          have c1 := clo_same L I.ok h2
          refine ⟨w', r, .inr ⟨.inr k, c2, h2, ?_⟩⟩
          rcases q with ⟨k', _⟩ | ⟨_, c3, e', z⟩
          · have k' : X.env.scope.names.lookup y = some .local := k'
            rcases L.free _ (PySem.mem_of_lookup k) rfl with k2 | k2 <;> rw [show X.env.scope.names.lookup y = _ from k2] at k' <;> cases k'
          · rw [c1] at e'
            cases e'
            exact cellK (I.freeC y _ c1) z
      · rw [List.getElem?_append_right (by omega)] at e1
        rw [List.getElem?_append_right (by rw [wipe_length, I.len]; omega), wipe_length, I.len] at e2
        have h0 : i - X.N.length = 0 := by
          have := (List.getElem?_eq_some_iff.mp e1).1
          simp at this
          omega
        rw [h0] at e1 e2
        cases e1
        cases e2
        exact ⟨u, rv, .inl ⟨L.par, List.lookup_cons_self⟩⟩⟩
    cell := fun y c e =>
      let ⟨w', z⟩ := I.cell y c (clo_same L I.ok e)
      ⟨w', cellK (I.freeC y c (clo_same L I.ok e)) z⟩
    free := e0.hok.fresh (Nat.le_refl _)
    freeC := fun y c e =>
      let ⟨v, o, ho, hd⟩ := I.cell y c (clo_same L I.ok e)
      un.free c o ho (I.freeC y c (clo_same L I.ok e)) (by simp)
    pin := fun q hq => nomatch (show q ∈ ([] : List (Addr × Obj)) ++ [] from hq)
    hok := e0.hok.kept kp
    len := by
      show (wipe σ vs ++ [some v]).length = (X.N ++ [it]).length
      rw [List.length_append, List.length_append, wipe_length, I.len]
      rfl }
/-- a(b), a the lambda that was handed in: in the def that got it -/
theorem pe_actW {CXg : CXT} {Eg : XK} {Ng : List Str} {qg : Str} {sg : Scope} {g f c' : Addr} {cdg pm ctv : Value} {params : Arguments} {body : Expr} {k i j : Nat} {a b : Str} {pn : List (Addr × Obj)} {xe : Value → Shared → Prop} {W : WX} {E : XK} {tb : TE} {p1 p2 p3 : Pos} {v : V} {vs : List Nat}
    (I : Inv X pins σ H s) (L : LamS1 X.env.scope scope it) (hno : ∀ i, X.N[i]? = some it → i ∈ vs) (at_f : s.heap.get? f = some (PySem.W.kla_obj "<lambda>" (X.env.qual ++ "<lambda>") params body scope (cloFrom X.env.cells scope.names []) pm c' ctv)) (no_f : H f = none) (off_f : f ∉ frs X.stack)
    (binds : ∀ u : Value, bindArgs (PySem.W.kla_fn "<lambda>" (X.env.qual ++ "<lambda>") params body scope (cloFrom X.env.cells scope.names []) pm (.ref c') ctv) ⟨[u], []⟩ = pure [(it, u)])
    (tk : Takes ((cxOf CXg X.prog X.w X.K X.mg X.base Ng qg sg g cdg X.A X.stack s H Eg).tr pn xe) W) (hr : Room (k + 1) (X.A.deeper (envOfC qg sg s.heap.objs.size g cdg)))
    (hb : ∀ (A : Around) (outer : List Env) (s : Shared) (H : Hp), Room k (A.deeper (lamEnv X scope s.heap.objs.size f c')) → PE (lamCx1 X A outer s H E scope f c' it) body tb)
    (hN : Ng[i]? = some a) (hv : Vis sg a) (hN2 : Ng[j]? = some b) (hv2 : Vis sg b) (hd : (a == ("__debug__" : Str)) = false := by decide) (hcd : (a == ("__classdict__" : Str)) = false := by decide) (hd2 : (b == ("__debug__" : Str)) = false := by decide) (hcd2 : (b == ("__classdict__" : Str)) = false := by decide) :
    PE ((cxOf CXg X.prog X.w X.K X.mg X.base Ng qg sg g cdg X.A X.stack s H Eg).tr pn xe) (.Call (.Name a p1) [.Name b p3] [] p2)
      (fun σZ HZ Q => σZ[i]? = some (some (.ref f)) ∧ σZ[j]? = some (some v) ∧ HZ c' = some (CodeO c' (X.env.qual ++ "<lambda>")) ∧ (∀ cls d H', E cls d H' → W cls d σZ H') ∧ tb (wipe σ vs ++ [some v]) HZ Q) := by
  refine ⟨fun pinsZ sZ σZ HZ Q IZ ⟨hs, hs2, hc, hW, ht⟩ => wpAny_Call_Name_kw (thn ((pe_var (pos := p1) (i := i) hN hv hd hcd).run pinsZ sZ σZ HZ (fun v H1 => v = .ref f ∧ H1 = HZ) IZ ⟨.ref f, hs, rfl, rfl⟩) fun u s1 ⟨w, H1, I1, r1, ev, eH⟩ => ?_)⟩
  subst ev
  rw [eH] at I1
  obtain rfl : u = Value.ref f := r1
  have kept : ∀ {s2 : Shared}, Inv ((cxOf CXg X.prog X.w X.K X.mg X.base Ng qg sg g cdg X.A X.stack s H Eg).tr pn xe) pinsZ σZ HZ s2 → s2.heap.get? f = some (PySem.W.kla_obj "<lambda>" (X.env.qual ++ "<lambda>") params body scope (cloFrom X.env.cells scope.names []) pm c' ctv) := fun I => I.base.keep f _ at_f no_f off_f (fun z => nomatch (show f ∈ ([] : List Addr) from z))
  refine PySem.W.callWith_F ⟨_, _, _, _, kept I1⟩ (thn ((pa_cons (pe_var (pos := p3) (i := j) hN2 hv2 hd2 hcd2) pa_nil (by rfl)).run p2 pinsZ s1 σZ HZ (fun vs3 H1 => vs3 = [v] ∧ H1 = HZ) I1 ⟨v, hs2, rfl, rfl⟩) fun us s2 ⟨vs2, H2, I2, r2, ev, eH⟩ => ?_) (by rfl) (by rfl)
  subst ev
  rw [eH] at I2
  obtain ⟨u2, rfl, rv⟩ : ∃ u2, us = [u2] ∧ RelV v u2 := by
    cases r2 with
    | cons a b => cases b; exact ⟨_, rfl, a⟩
  refine ⟨⟨_, _, _, _, kept I2⟩, ?_⟩
  show wpAny _ _ (call (.ref f) [u2]) _ _ s2
  have since : Un (frs X.stack) [] H HZ s.heap s2.heap := I2.base
  obtain ⟨⟨oc, vs4, t, hoc, hdc, hvc⟩, _, _⟩ := I2.hok c' _ hc
  have runs : codeAny (model X.prog X.w) (X.A.deeper (envOfC qg sg s.heap.objs.size g cdg)) (.call (.ref f) ⟨[u2], []⟩) (CR (L2.CX X.prog X.w) (envOfC qg sg s.heap.objs.size g cdg :: X.stack) X.prog X.w HZ s2 Q E) s2 := by
    refine PySem.W.kla_callFunE hr.depth (kept I2) rfl L.co L.gen rfl ⟨c', oc, vs4, t, rfl, hoc, hdc, hvc⟩ ?_
    rw [binds u2]
    refine wpAny_pure (wpAny_newFunctionEnv (fun y hy => (L.own y hy).2) (fun y hy => by rw [List.mem_singleton.mp hy]; exact L.par) (fun h₁ hns hsb => ⟨I2.nolimit.fresh _ hsb, ?_⟩) L.kind)
    show codeAny _ _ (.expr body (lamEnv X scope s2.heap.objs.size f c')) _ _
    have J := lam_startW (A := X.A.deeper (envOfC qg sg s.heap.objs.size g cdg)) (outer := envOfC qg sg s.heap.objs.size g cdg :: X.stack) (E := E) (f := f) (c' := c') (tk := s2.toks + ([(it, u2)] : List (Str × Value)).length) I L hno I2.env0 hr.hd since hns (fun b o e => hsb.extBut b o (Nat.ne_of_lt (Heap.lt_size e)) (Heap.get?_push_of_some _ e)) rv
    exact PySem.W.kla_codeExpr (wpAny_mono ((hb _ _ s2 HZ (hr.deeper _)).run [] _ _ HZ Q J ht) (fun v s' ⟨w', H', J', rv, q⟩ => ⟨w', H', J'.os, J'.bare, J'.base, J'.hok, rv, q⟩) fun e s' hq => hq)
  refine wpAny_call (codeAny_mono runs fun r s' hq => ?_)
  match r, hq with
  | .error e, hq => exact tk e s' (XE.of_call I2 (fun cls d H' h => hW cls d H' h) hq)
  | .ok (.ret u), hq => exact I2.after hq
  | .ok .next, hq => exact False.elim hq
  | .ok .brk, hq => exact False.elim hq
  | .ok .cont, hq => exact False.elim hq
def tLamW (P : Addr) (q : Str) (T : List (Addr × Str)) (TT : (XK → Hp → VK → Prop) → Hp → VK → Prop) (te : TE) (t : XK → TE) (vs : List Nat) : TE := fun σ H Q => Tabs T H ∧ ∀ H1, TabStep P q H H1 → ∀ c', H1 c' = some (CodeO c' q) → te σ H1 fun v H2 => H2 c' = some (CodeO c' q) ∧ TT (fun E H' Q' => t E (wipe σ vs ++ [some v]) H' Q') H2 Q
theorem pe_lamW {T : List (Addr × Str)} {TT : (XK → Hp → VK → Prop) → Hp → VK → Prop} {x a b : Str} {gd c P : Addr} {k : Nat} {st : Stmt} {fdg : FuncData} {Ng : List Str}
    {params : Arguments} {body e2 : Expr} {te : TE} {t : XK → TE} {p lpos pos : Pos} {q : Str} {vs : List Nat} (F : Fun X.K x x st gd fdg) (Sg : FnScope Ng [a, b] (defScope st)) (hN : Ng[0]? = some a) (hN2 : Ng[1]? = some b) (hg : Gl X x) (hm : X.mg x = some (.ref gd)) (hb : L2.Binds X.K fdg [a, b] [])
    (hG : GivesB X (k + 1) Ng x (defScope st) gd (defBody st) a b (X.env.qual ++ "<lambda>") TT) (eq : X.env.qual ++ "<lambda>" = q)
    (TB : TabB X.base X.mg c P) (hcode : X.env.code = .ref c) (hmT : (P, q) ∈ T) (hr : Room (k + 2) X.A) (L : LamS1 X.env.scope scope it) (hno : ∀ i, X.N[i]? = some it → i ∈ vs) (hdef : defaultsOf params X.env = ([], []))
    (hbind : ∀ (q : Str) (cl : List (Str × Addr)) (pm cv ctv u : Value), bindArgs (PySem.W.kla_fn "<lambda>" q params body scope cl pm cv ctv) ⟨[u], []⟩ = pure [(it, u)])
    (h2 : PE X e2 te)
    (hbody : ∀ (A : Around) (outer : List Env) (s : Shared) (H : Hp) (E : XK) (f c' : Addr), Room k (A.deeper (lamEnv X scope s.heap.objs.size f c')) → PE (lamCx1 X A outer s H E scope f c' it) body (t E))
    (hst : starEach [.Lambda params body scope lpos, e2] X.env = (false, eval (.Lambda params body scope lpos) X.env) :: starEach [e2] X.env := by rfl) (hst2 : starEach [e2] X.env = [(false, eval e2 X.env)] := by rfl) (hpl : (backTo pos (starEach [e2] X.env)).any (·.1) = false := by rfl)
    (hdb : (x == ("__debug__" : Str)) = false := by decide) (hd : (a == ("__debug__" : Str)) = false := by decide) (hcd : (a == ("__classdict__" : Str)) = false := by decide) (hd2 : (b == ("__debug__" : Str)) = false := by decide) (hcd2 : (b == ("__classdict__" : Str)) = false := by decide) :
    PE X (.Call (.Name x p) [.Lambda params body scope lpos, e2] [] pos) (tLamW P q T TT te t vs) := by
  refine ⟨fun pins s σ H Q I ⟨hT, h⟩ => wpAny_Call_Name_kw (ld_glob I hg hm (PySem.W.callWith_K (h₀ := X.base) I.ok.mod.kin F.kp ?_ hst hpl) hdb)⟩
  subst eq
  rw [hst]
  show wpAny _ _ (spliced ((false, eval (.Lambda params body scope lpos) X.env) :: backTo pos (starEach [e2] X.env))) _ _ s
  refine Calls.spliced_cons (lam_makeP I TB hcode rfl hmT hT hdef (L.has I.ok) fun f c' pm' ctv H1 s' J eN hf hfn hfr hco => ?_)
  have fs : f ∉ X.fs := fun z => hfr (by
    rcases I.ok.stk with e | ⟨e, hfm⟩
    · rw [e]; exact z
    · rw [e]; unfold frs; rw [List.filterMap_cons, hfm]; exact List.mem_cons_of_mem _ z)
  have fl : f ≠ X.env.locals := fun z => by
    obtain ⟨m, ⟨o', es, ep, ho', hd', _⟩, _⟩ := J.loc
    rw [← z, hf] at ho'
    cases ho'
    cases hd'
  have Jp : Inv X ((f, PySem.W.kla_obj "<lambda>" (X.env.qual ++ "<lambda>") params body scope (cloFrom X.env.cells scope.names []) pm' c' ctv) :: pins) σ H1 s' := J.pins_of fun p hp => by
    rcases List.mem_cons.mp hp with rfl | hp
    · exact ⟨hf, hfn, fl, fs, fun _ z => by cases z⟩
    · exact J.pin p (List.mem_append_right _ hp)
  rw [hst2]
  show wpAny _ _ (spliced ((false, eval e2 X.env) :: [])) _ _ s'
  refine Calls.spliced_cons (thn (h2.run _ s' σ H1 _ Jp (h H1 eN c' hco)) fun u2 s2 ⟨v2, H2, I2p, r2, hco2, h3⟩ => Calls.spliced_nil ?_)
  have I2 : Inv X pins σ H2 s2 := invUnpin I2p
  obtain ⟨hf2, hfn2⟩ := invPinAt I2p
  refine ⟨I2.kIn, ?_⟩
  have bt := hb s2 [.ref f, u2] I2.kIn rfl
  rw [List.append_nil] at bt
  have rc : codeAny (model X.prog X.w) X.A (.call (.ref gd) ⟨[.ref f, u2], []⟩) (CR CX0 X.stack X.prog X.w H2 s2 Q E0) s2 := by
    refine fn_raw (CX := CX0) (k := k + 1) (n := 0) (us := [.ref f, u2]) (vs := [.ref f, v2]) F Sg rfl hr I2.env0 bt (.cons rfl (.cons r2 .nil)) (Nat.zero_le _) fun cdv s1 hr1 I1 t1 _ => ?_
    obtain ⟨tt, hs, hq⟩ := hG f c' cdv s2 H2 Q v2 (fun E H' Q' => t E (wipe σ vs ++ [some v2]) H' Q') hr1 (fun W pn xe E p1 p2 p3 tk => pe_actW (CXg := CX0) (Eg := E0) (i := 0) (j := 1) I2 L hno hf2 hfn2 hfr (fun u => hbind _ _ _ _ _ u) tk hr1 (fun A outer s H hr2 => hbody A outer s H E f c' hr2) hN (by rcases Sg.par a (List.mem_cons_self ..) with z | z; exact .inl z; exact .inr (.inl z)) hN2 (by rcases Sg.par b (List.mem_cons_of_mem _ (List.mem_cons_self ..)) with z | z; exact .inl z; exact .inr (.inl z)) hd hcd hd2 hcd2) hco2 h3
    exact wpAny_mono (hs.run [] s1 _ H2 _ t1 (I1.wish _) hq) (fun _ _ z => z.unwish) fun _ _ z => z.elim
  refine wpAny_call (codeAny_mono rc fun r s3 hq => ?_)
  match r, hq with
  | .error e, hq => exact (show False from hq).elim
  | .ok (.ret u), hq => exact I2.after hq
  | .ok .next, hq => exact False.elim hq
  | .ok .brk, hq => exact False.elim hq
  | .ok .cont, hq => exact False.elim hq
end
end PD

/-! Sessions: what does not change them: is_edit, check_edit, edited; the getters over a session that is lent. -/
namespace SP
open PySem PySem.Spec PyProof.Rows L2 PD
variable {g : Gb} {C CS CSc CE : Addr}
/-! ### edits -/
def isEd (ls : Str) (ps : List Str) (od : List Nat) : DV → Bool
  | .tup [.str k, x] => if k = "aim" then isWord ls 6 x else decide (k = "write") && isWr ls ps od x
  | _ => false
inductive Ed where
  | aim (t : Str) | wr (w : Wr)
  deriving DecidableEq
def Ed.d : Ed → DV
  | .aim t => .tup [.str "aim", .str t]
  | .wr w => .tup [.str "write", w.d]
def okEd (ls : Str) (ps : List Str) (od : List Nat) : Ed → Prop
  | .aim t => wordOk ls 6 t = true
  | .wr w => VW ls ps.length w ∧ chg ps od w = true
def aimD : Option Str → DV
  | none => .non
  | some t => .str t
def edRes (tn : Bool) (ps : List Str) (od : List Nat) (am : Option Str) : Ed → List Str × List Nat × Option Str × DV
  | .aim t => (ps, od, if t = textOf ps od then none else some t, .non)
  | .wr w => if safeOf ps od w tn (am.getD (textOf ps od)) = true then
      (if textOf (afterP ps w) (afterO od w) = textOf ps od then (afterP ps w, afterO od w, am, .str "old") else (afterP ps w, afterO od w, none, .str "new"))
    else (ps, od, am, .str "no")
theorem isEd_aim {ls : Str} {ps : List Str} {od : List Nat} {b : DV} : isEd ls ps od (.tup [.str "aim", b]) = isWord ls 6 b := by
  show (if ("aim" : Str) = "aim" then isWord ls 6 b else (decide (("aim" : Str) = "write") && isWr ls ps od b)) = _
  exact if_pos rfl
theorem isEd_ne {ls : Str} {ps : List Str} {od : List Nat} {s : Str} {b : DV} (h : s ≠ "aim") : isEd ls ps od (.tup [.str s, b]) = (decide (s = "write") && isWr ls ps od b) := if_neg h
theorem isEd_d {ls : Str} {ps : List Str} {od : List Nat} {e : Ed} (h : okEd ls ps od e) : isEd ls ps od e.d = true := by
  cases e with
  | aim t =>
    exact isEd_aim.trans h
  | wr w =>
    refine (isEd_ne (by decide +kernel)).trans ?_
    rw [isWr_d h.1, h.2]
    decide +kernel
theorem scIsEdit : FnScope ["file", "value"] ["file", "value"] (defScope s_is_edit) := ⟨rfl, rfl, rfl, by decide +kernel, rfl, by decide +kernel, by decide +kernel⟩
def R_isedit (C : Addr) : List DV → DV → Prop := fun ds d => ∃ ls ps od pp op tn v, VS ls ps od ∧ fit v = true ∧ ds = [fileD C ls ps od pp op tn, v] ∧ d = .bl (isEd ls ps od v)
theorem ok_isedit (B : Bt g) (L : Fl g C) (P : Fp g C) (T : Fn g 2 "is_text" R_text) (Iw : Fn g 5 "is_write" (R_iswr C)) {f : Addr} {fd : FuncData} (F : Fun g.K "is_edit" "is_edit" s_is_edit f fd) : FnOk g.P g.w g.K g.mg g.base CX0 6 f fd ["file", "value"] (spR g.K (R_isedit C)) := by
  refine fn_ok F scIsEdit (fun ds d ⟨ls, ps, od, pp, op, tn, v, _, _, e, _⟩ => by rw [e]; rfl) fun ds d ⟨ls, ps, od, pp, op, tn, v, vs, hf, e, ed⟩ => ?_
  subst e ed
  have hk := fit_obj hf
  cases v with
  | tup xs =>
    obtain ⟨hl, hfs⟩ := fit_tup hf
    have stop : (!decide ((xs.length : Int) = 2)) = true → isEd ls ps od (.tup xs) = false → DSs g ⟨5, ["file", "value"], defScope s_is_edit, fun _ => true, true, none⟩ (defBody s_is_edit) (rho0 ["file", "value"] [fileD C ls ps od pp op tn, .tup xs]) { nx := fun _ => DV.bl (isEd ls ps od (.tup xs)) = .non, rt := fun r => r = .bl (isEd ls ps od (.tup xs)) } := fun hn hE =>
      dss_cons (ds_if (x := true) (dt_w (dw_or (x := false) (y := true) (dt_not (dt_e (de_isTup B hk (de_v 1)))) fun _ => dw_or (x := true) (y := true) (DT.is (dt_neI (de_len B.len rfl (de_v 1)) de_int) hn) fun z => by cases z)) (fun h => dss_one (ds_ret de_bl (by rw [hE]))) fun h => by cases h)
    match xs, hfs, stop with
    | [], _, stop => exact stop (show (!decide ((0 : Int) = 2)) = true by decide) rfl
    | [a], _, stop => exact stop (show (!decide ((1 : Int) = 2)) = true by decide) (by cases a <;> rfl)
    | a :: b :: c :: r, _, stop =>
      refine stop ?_ (by cases a <;> rfl)
      rw [Bool.not_eq_true', decide_eq_false_iff_not]
      show ¬ (((r.length + 1 + 1 + 1 : Nat) : Int) = 2)
      omega
    | [a, b], hfs, _ =>
      obtain ⟨ha, hb⟩ := fits2 hfs
      refine dss_cons (ds_if (x := !a.isStr) (DT.is (dt_w (dw_or (x := false) (y := !a.isStr) (dt_not (dt_e (de_isTup B hk (de_v 1)))) fun _ => dw_or (x := false) (y := !a.isStr) (DT.is (dt_neI (de_len (ds := [a, b]) B.len rfl (de_v 1)) de_int) (show (!decide ((2 : Int) = 2)) = false by decide)) fun _ => dw_or1 (dt_not (dt_e (de_isStr B (fit_obj ha) (de_ixT (xs := [a, b]) (i := 0) (d := a) (atI_nat (j := 0) rfl) (de_v 1) de_int)))))) (by simp)) (fun h => dss_one (ds_ret de_bl ?_)) fun h => dss_nil ?_)
      · have h' : a.isStr = false := by simpa using h
        cases a <;> first | rfl | cases h'
      · have h' : a.isStr = true := by simpa using h
        obtain ⟨s, rfl⟩ : ∃ s, a = .str s := by cases a <;> first | exact ⟨_, rfl⟩ | cases h'
        refine dss_cons (ds_if (x := decide (s = "aim")) (dt_eqS (de_ixT (xs := [.str s, b]) (i := 0) (d := .str s) rfl (de_v 1) de_int) de_str) (fun h => ?_) fun h => dss_nil ?_)
        · have hs := of_decide_eq_true h
          subst hs
          exact dss_one (ds_ret (de_call T (da_cons (de_ls L P (de_v 0)) (da_cons (de_ixT (xs := [.str "aim", b]) (i := 1) (d := b) rfl (de_v 1) de_int) da_nil)) ⟨ls, b, rfl, hb, rfl⟩) (by rw [isEd_aim]))
        · have hs := of_decide_eq_false h
          exact dss_one (ds_ret (d := .bl (decide (s = "write") && isWr ls ps od b)) (de_and (x := decide (s = "write")) (y := isWr ls ps od b) (de_eqS (de_ixT (xs := [.str s, b]) (i := 0) (d := .str s) rfl (de_v 1) de_int) de_str) fun _ => de_one (de_call Iw (da_cons (de_v 0) (da_cons (de_ixT (xs := [.str s, b]) (i := 1) (d := b) rfl (de_v 1) de_int) da_nil)) ⟨ls, ps, od, pp, op, tn, b, vs, hb, rfl, rfl⟩)) (by rw [isEd_ne hs]))
  | _ => exact dss_cons (ds_if (x := true) (dt_w (dw_or (x := true) (y := false) (DT.is (dt_not (dt_e (de_isTup B hk (de_v 1)))) rfl) fun z => by cases z)) (fun h => dss_one (ds_ret de_bl rfl)) fun h => by cases h)
theorem scCheckEdit : FnScope ["file", "edit"] ["file", "edit"] (defScope s_check_edit) := ⟨rfl, rfl, rfl, by decide +kernel, rfl, by decide +kernel, by decide +kernel⟩
def R_ceditZ (C CE : Addr) : List DV → Out → Prop := fun ds o => ∃ ls ps od pp op tn v, VS ls ps od ∧ fit v = true ∧ ds = [fileD C ls ps od pp op tn, v] ∧ o = if isEd ls ps od v = true then .val .non else .exc CE []
theorem ok_ceditZ (XE' : Xc g CE "BadEdit") (Ie : Fn g 6 "is_edit" (R_isedit C)) {f : Addr} {fd : FuncData} (F : Fun g.K "check_edit" "check_edit" s_check_edit f fd) : FnOk g.P g.w g.K g.mg g.base (L2.CX g.P g.w) 7 f fd ["file", "edit"] (spZ g.K (R_ceditZ C CE)) := by
  refine fn_okZ F scCheckEdit (fun ds o ⟨ls, ps, od, pp, op, tn, v, _, _, e, _⟩ => by rw [e]; rfl) fun ds o ⟨ls, ps, od, pp, op, tn, v, hp, h, e, eo⟩ => ?_
  subst e eo
  refine dssz_one (dsz_if (x := !isEd ls ps od v) (dt_not (dt_e (de_call Ie (da_cons (de_v 0) (da_cons (de_v 1) da_nil)) ⟨ls, ps, od, pp, op, tn, v, hp, h, rfl, rfl⟩))) (fun hb => ?_) fun hb => ?_)
  · have hw : isEd ls ps od v = false := by simpa using hb
    rw [hw, if_neg (by decide)]
    exact dssz_one (dsz_raise0 XE' ⟨rfl, rfl⟩)
  · have hw : isEd ls ps od v = true := by simpa using hb
    rw [hw, if_pos rfl]
    exact dssz_nil rfl
theorem scEdited : FnScope ["file", "aim", "edit", "kind", "value", "text", "reached"] ["file", "aim", "edit"] (defScope s_edited) := ⟨rfl, rfl, rfl, by decide +kernel, rfl, by decide +kernel, by decide +kernel⟩
def okAim (ls : Str) (am : Option Str) : Prop := ∀ t, am = some t → wordOk ls 6 t = true
def resD (C : Addr) (ls : Str) (pp op : Int) (tn : Bool) (r : List Str × List Nat × Option Str × DV) : DV := .tup [fileD C ls r.1 r.2.1 pp op tn, aimD r.2.2.1, r.2.2.2]
def R_edited (C : Addr) : List DV → DV → Prop := fun ds d => ∃ ls ps od pp op tn am e, VF ls ps od pp op ∧ wordOk ls 6 (textOf ps od) = true ∧ okAim ls am ∧ okEd ls ps od e ∧ ds = [fileD C ls ps od pp op tn, aimD am, e.d] ∧ d = resD C ls pp op tn (edRes tn ps od am e)
theorem ok_edited (L : Fl g C) (P : Fp g C) (Tx : Pr g 2 C "text" (R_ftext C)) (Sf : Fn g 6 "is_safe" (R_safe C)) (Af : Fn g 7 "after" (R_after C)) {f : Addr} {fd : FuncData} (F : Fun g.K "edited" "edited" s_edited f fd) : FnOk g.P g.w g.K g.mg g.base CX0 8 f fd ["file", "aim", "edit"] (spR g.K (R_edited C)) := by
  refine fn_ok F scEdited (fun ds d ⟨ls, ps, od, pp, op, tn, am, e, _, _, _, _, e1, _⟩ => by rw [e1]; rfl) fun ds d ⟨ls, ps, od, pp, op, tn, am, e, v, ht, ha, he, e1, ed⟩ => ?_
  subst e1 ed
  have bd : Bd ps od := v.v.bd
  have two : ∃ k x, e.d = .tup [.str k, x] := by cases e <;> exact ⟨_, _, rfl⟩
  obtain ⟨kd, xd, ek⟩ := two
  rw [ek]
  refine dss_cons (ds_asg (de_v 2) (dg_tup (dgs_cons (dg_n 3 scEdited.nd) (dgs_cons (dg_n 4 scEdited.nd) dgs_nil))) (dss_cons (ds_set 5 scEdited.nd (de_prop L.kl.c Tx ⟨ls, ps, od, pp, op, tn, bd, rfl, rfl⟩ (de_v 0)) ?_)))
  cases e with
  | aim t =>
    cases ek
    refine dss_cons (ds_if (x := true) (DT.is (dt_eqS (de_v 3) de_str) (by decide +kernel)) (fun _ => dss_one (ds_ret (de_tup (da_cons (de_v 0) (da_cons (de_if (x := decide (t = textOf ps od)) (d := aimD (if t = textOf ps od then none else some t)) (dt_eqS (de_v 4) (de_v 5)) (fun h => ?_) fun h => ?_) (da_cons de_non da_nil)))) rfl)) fun h => by cases h)
    · rw [if_pos (of_decide_eq_true h)]
      exact de_non
    · rw [if_neg (of_decide_eq_false h)]
      exact de_v 4
  | wr w =>
    cases ek
    have hal : wordOk ls 6 (am.getD (textOf ps od)) = true := by
      cases am with
      | none => exact ht
      | some t => exact ha t rfl
    refine dss_cons (ds_if (x := false) (DT.is (dt_eqS (de_v 3) de_str) (by decide +kernel)) (fun h => by cases h) fun _ => dss_nil (dss_cons (ds_if (x := !safeOf ps od w tn (am.getD (textOf ps od))) (dt_not (dt_e (de_call Sf (da_cons (de_v 0) (da_cons (de_v 4) (da_cons (de_if (x := (aimD am).isN) (d := .str (am.getD (textOf ps od))) (dt_isN (de_v 1)) (fun h => ?_) fun h => ?_) da_nil))) ⟨ls, ps, od, pp, op, tn, w, _, v.v, he.1, he.2, hal, rfl, rfl⟩))) (fun h => ?_) fun h => dss_nil ?_)))
    · cases am with
      | none => exact de_v 5
      | some t => cases h
    · cases am with
      | none => cases h
      | some t => exact de_v 1
    · have h' : safeOf ps od w tn (am.getD (textOf ps od)) = false := by simpa using h
      refine dss_one (ds_ret (de_tup (da_cons (de_v 0) (da_cons (de_v 1) (da_cons de_str da_nil)))) ?_)
      show _ = resD C ls pp op tn (if safeOf ps od w tn (am.getD (textOf ps od)) = true then _ else _)
      rw [if_neg (by rw [h']; decide)]
      rfl
    · have h' : safeOf ps od w tn (am.getD (textOf ps od)) = true := by simpa using h
      have v' : VS ls (afterP ps w) (afterO od w) := v.v.after he.1
      refine dss_cons (ds_set 6 scEdited.nd (de_call Af (da_cons (de_v 0) (da_cons (de_v 4) da_nil)) ⟨ls, ps, od, pp, op, tn, w, v, he.1, he.2, rfl, rfl⟩) (dss_cons (ds_if (x := decide (textOf (afterP ps w) (afterO od w) = textOf ps od)) (dt_eqS (de_prop L.kl.c Tx ⟨ls, _, _, pp, op, tn, v'.bd, rfl, rfl⟩ (de_v 6)) (de_v 5)) (fun h2 => dss_one (ds_ret (de_tup (da_cons (de_v 6) (da_cons (de_v 1) (da_cons de_str da_nil)))) ?_)) fun h2 => dss_nil (dss_one (ds_ret (de_tup (da_cons (de_v 6) (da_cons de_non (da_cons de_str da_nil)))) ?_)))))
      · show _ = resD C ls pp op tn (if safeOf ps od w tn (am.getD (textOf ps od)) = true then (if _ then _ else _) else _)
        rw [if_pos h', if_pos (of_decide_eq_true h2)]
        rfl
      · show _ = resD C ls pp op tn (if safeOf ps od w tn (am.getD (textOf ps od)) = true then (if _ then _ else _) else _)
        rw [if_pos h', if_neg (of_decide_eq_false h2)]
        rfl
end SP

/-! Sessions: the getters, over a session that is lent. -/
namespace SP
open PySem PySem.Spec PyProof.Rows L2 PD
variable {g : Gb} {C CS CSc CE : Addr}
def scgs (ms : List DV) (out : DV) : List (Str × DV) := [("moments", .lst ms), ("outer", out)]
def scpD (CSc : Addr) (ms : List DV) (out : DV) : DV := .obj CSc (scgs ms out)
def sesgs (CSc : Addr) (ms : List DV) (out : DV) : List (Str × DV) := [("_scope", scpD CSc ms out)]
def sesD (CS CSc : Addr) (ms : List DV) (out : DV) : DV := .obj CS (sesgs CSc ms out)
def momD (f am pr : DV) : DV := .tup [f, am, pr]
theorem scgs_m {ms : List DV} {out : DV} : (scgs ms out).lookup ("moments" : Str) = some (.lst ms) := List.lookup_cons_self
theorem scgs_o {ms : List DV} {out : DV} : (scgs ms out).lookup ("outer" : Str) = some out := by
  show List.lookup _ (_ :: _) = _
  rw [List.lookup_cons, show (("outer" : Str) == "moments") = false by decide +kernel]
  exact List.lookup_cons_self
theorem sesgs_s {ms : List DV} {out : DV} : (sesgs CSc ms out).lookup ("_scope" : Str) = some (scpD CSc ms out) := List.lookup_cons_self
theorem scgs_no {ms : List DV} {out : DV} {n : Str} (h : (n == ("moments" : Str)) = false) (h2 : (n == ("outer" : Str)) = false) : (scgs ms out).lookup n = none := by
  show List.lookup n [_, _] = none
  rw [List.lookup_cons, h, List.lookup_cons, h2]
  rfl
/-- what is known of the three classes -/
structure Ssl (g : Gb) (CS CSc : Addr) : Prop where
  cS : Cls g.K CS
  cSc : Cls g.K CSc
  nS : NoAttr g.K CS "_scope"
  nM : NoAttr g.K CSc "moments"
  nO : NoAttr g.K CSc "outer"
theorem atI_last {α : Type} (l : List α) (x : α) : atI (l ++ [x]) (-1) = some x := by
  have ln : (l ++ [x]).length = l.length + 1 := by rw [List.length_append, List.length_singleton]
  unfold atI ixN
  rw [ln, if_neg (by omega), if_pos (by omega)]
  show (l ++ [x])[((-1 : Int) + ((l.length + 1 : Nat) : Int)).toNat]? = _
  rw [show ((-1 : Int) + ((l.length + 1 : Nat) : Int)).toNat = l.length by omega]
  rw [List.getElem?_append_right (Nat.le_refl _), Nat.sub_self]
  rfl
section
variable {l : Lc} {ρ : Rho} {e : Expr} {pos p2 : Pos} {ms : List DV} {out d : DV}
theorem de_scope (S : Ssl g CS CSc) (h : DE g l e ρ (sesD CS CSc ms out)) (hab : ∀ env, attributeBase e "_scope" env (eval e env) = eval e env := by intro _; rfl) : DE g l (.Attribute e "_scope" pos) ρ (scpD CSc ms out) := de_fld S.cS S.nS sesgs_s h hab
theorem de_moms (S : Ssl g CS CSc) (h : DE g l e ρ (scpD CSc ms out)) (hab : ∀ env, attributeBase e "moments" env (eval e env) = eval e env := by intro _; rfl) : DE g l (.Attribute e "moments" pos) ρ (.lst ms) := de_fld S.cSc S.nM scgs_m h hab
theorem de_outer (S : Ssl g CS CSc) (h : DE g l e ρ (scpD CSc ms out)) (hab : ∀ env, attributeBase e "outer" env (eval e env) = eval e env := by intro _; rfl) : DE g l (.Attribute e "outer" pos) ρ out := de_fld S.cSc S.nO scgs_o h hab
end
theorem scSCur : FnScope ["self"] ["self"] (defScope s_Session_current) := ⟨rfl, rfl, rfl, by decide +kernel, rfl, by decide +kernel, by decide +kernel⟩
def R_scur (CS CSc : Addr) : List DV → DV → Prop := fun ds d => ∃ ms f am pr out, ds = [sesD CS CSc (ms ++ [momD f am pr]) out] ∧ d = f
theorem ok_scur (S : Ssl g CS CSc) {f : Addr} {fd : FuncData} (F : Fun g.K "current" "Session.current" s_Session_current f fd) : FnOk g.P g.w g.K g.mg g.base CX0 1 f fd ["self"] (spR g.K (R_scur CS CSc)) := by
  refine fn_ok F scSCur (fun ds d ⟨ms, f, am, pr, out, e, _⟩ => by rw [e]; rfl) fun ds d ⟨ms, f, am, pr, out, e, ed⟩ => ?_
  subst e ed
  exact dss_one (ds_ret (de_ixT (xs := [d, am, pr]) (i := 0) rfl (de_ixL (atI_last ms (momD d am pr)) (de_moms S (de_scope S (de_v 0))) (de_neg de_int)) de_int) rfl)
theorem scSAim : FnScope ["self"] ["self"] (defScope s_Session_aim) := ⟨rfl, rfl, rfl, by decide +kernel, rfl, by decide +kernel, by decide +kernel⟩
def R_saim (CS CSc : Addr) : List DV → DV → Prop := fun ds d => ∃ ms f am pr out, ds = [sesD CS CSc (ms ++ [momD f am pr]) out] ∧ d = am
theorem ok_saim (S : Ssl g CS CSc) {f : Addr} {fd : FuncData} (F : Fun g.K "aim" "Session.aim" s_Session_aim f fd) : FnOk g.P g.w g.K g.mg g.base CX0 1 f fd ["self"] (spR g.K (R_saim CS CSc)) := by
  refine fn_ok F scSAim (fun ds d ⟨ms, f, am, pr, out, e, _⟩ => by rw [e]; rfl) fun ds d ⟨ms, f, am, pr, out, e, ed⟩ => ?_
  subst e ed
  exact dss_one (ds_ret (de_ixT (xs := [f, d, pr]) (i := 1) rfl (de_ixL (atI_last ms (momD f d pr)) (de_moms S (de_scope S (de_v 0))) (de_neg de_int)) de_int) rfl)
abbrev sjN : List Str := ["self", "_", "pair"]
theorem scSJou : FnScope sjN ["self"] (defScope s_Session_journal) := ⟨rfl, rfl, rfl, by decide +kernel, rfl, by decide +kernel, by decide +kernel⟩
abbrev Mom := DV × DV × DV
def Mom.d (m : Mom) : DV := momD m.1 m.2.1 m.2.2
def R_sjou (CS CSc : Addr) : List DV → DV → Prop := fun ds d => ∃ (m0 : DV) (ms : List Mom) (out : DV), ms.length ≤ 1000 ∧ ds = [sesD CS CSc (m0 :: ms.map Mom.d) out] ∧ d = .lst (ms.map fun m => m.2.2)
theorem ok_sjou (S : Ssl g CS CSc) {f : Addr} {fd : FuncData} (F : Fun g.K "journal" "Session.journal" s_Session_journal f fd) : FnOk g.P g.w g.K g.mg g.base CX0 1 f fd ["self"] (spR g.K (R_sjou CS CSc)) := by
  refine fn_ok F scSJou (fun ds d ⟨m0, ms, out, _, e, _⟩ => by rw [e]; rfl) fun ds d ⟨m0, ms, out, hl, e, ed⟩ => ?_
  subst e ed
  have cut : cutG (m0 :: ms.map Mom.d) (some 1) none = ms.map Mom.d := cutG_from (k := 1)
  refine dss_one (ds_ret (DE.is (dl_rL (own := [("_", 1), ("pair", 2)]) scSJou.nd (by decide +kernel) (rL.ev (is := [1, 1, 2]) (di_l (DE.is (de_slL (de_moms S (de_scope S (de_v 0))) (dp_some de_int) dp_none) (congrArg DV.lst cut))) (by rw [List.length_map]; omega) (by decide)
    (fun d => match d with | .tup [a, b, c] => [.val (sesD CS CSc (m0 :: ms.map Mom.d) out), .val b, .val c] | _ => []) (fun _ => true) (fun d => match d with | .tup [a, b, c] => c | _ => .non) (fun d hd => ?_) (fun d hd => dts_nil) (fun d hd _ => ?_))).de ?_) rfl)
  · rw [List.mem_map] at hd
    obtain ⟨⟨a, b, c⟩, _, rfl⟩ := hd
    exact dg_tup (ds := [a, b, c]) (dgs_cons (dg_n 1 scSJou.nd) (dgs_cons (dg_n 1 scSJou.nd) (dgs_cons (dg_n 2 scSJou.nd) dgs_nil)))
  · rw [List.mem_map] at hd
    obtain ⟨⟨a, b, c⟩, _, rfl⟩ := hd
    exact de_v 2
  · rw [filt, List.map_map]
    rfl
theorem scSLen : FnScope ["self"] ["self"] (defScope s_Session_len) := ⟨rfl, rfl, rfl, by decide +kernel, rfl, by decide +kernel, by decide +kernel⟩
def R_slen (CS CSc : Addr) : List DV → DV → Prop := fun ds d => ∃ (m0 : DV) (ms : List Mom) (out : DV), ms.length ≤ 1000 ∧ ds = [sesD CS CSc (m0 :: ms.map Mom.d) out] ∧ d = .int ms.length
theorem ok_slen (B : Bt g) (S : Ssl g CS CSc) (J : Pr g 1 CS "journal" (R_sjou CS CSc)) {f : Addr} {fd : FuncData} (F : Fun g.K "__len__" "Session.__len__" s_Session_len f fd) : FnOk g.P g.w g.K g.mg g.base CX0 3 f fd ["self"] (spR g.K (R_slen CS CSc)) := by
  refine fn_ok F scSLen (fun ds d ⟨m0, ms, out, _, e, _⟩ => by rw [e]; rfl) fun ds d ⟨m0, ms, out, hl, e, ed⟩ => ?_
  subst e ed
  exact dss_one (ds_ret (de_len B.len rfl (de_prop S.cS J ⟨m0, ms, out, hl, rfl, rfl⟩ (de_v 0))) (by rw [List.length_map]))
theorem scFixed : FnScope ["self"] ["self"] (defScope s_Scope_fixed) := ⟨rfl, rfl, rfl, by decide +kernel, rfl, by decide +kernel, by decide +kernel⟩
def R_fixed (CSc : Addr) : List DV → DV → Prop := fun ds d => (∃ ms, ds = [scpD CSc ms .non] ∧ d = .int 1)
theorem ok_fixed (S : Ssl g CS CSc) {f : Addr} {fd : FuncData} (F : Fun g.K "fixed" "Scope.fixed" s_Scope_fixed f fd) : FnOk g.P g.w g.K g.mg g.base CX0 1 f fd ["self"] (spR g.K (R_fixed CSc)) := by
  refine fn_ok F scFixed (fun ds d ⟨ms, e, _⟩ => by rw [e]; rfl) fun ds d ⟨ms, e, ed⟩ => ?_
  subst e ed
  exact dss_one (ds_ret (d := .int 1) (de_if (x := true) (dt_isN (d := .non) (de_outer (ms := ms) (out := .non) S (de_v 0))) (fun _ => de_int) fun h => by cases h) rfl)
end SP

/-! Sessions: made, changed by an edit. -/
namespace PD
open PySem PySem.Spec PyProof.Rows L2 LamX
theorem cu_cu {L : Cels} {p : Addr} {c c' : Cel} : cu (cu L p c) p c' = cu L p c' := funext fun q => by
  unfold cu
  by_cases h : q = p
  · rw [if_pos h, if_pos h]
  · rw [if_neg h, if_neg h, if_neg h]
def noZ : Zf := fun _ _ _ => False
/-- what L has, L' has -/
def Le (L L' : Cels) : Prop := ∀ q c, L q = some c → L' q = some c
theorem Le.rf (L : Cels) : Le L L := fun _ _ h => h
theorem Le.new {L : Cels} {p : Addr} {c : Cel} (h : L p = none) : Le L (cu L p c) := fun q x e => by
  have w : q ≠ p := fun z => by rw [z, h] at e; cases e
  rw [cu_ne w]
  exact e
theorem Le.free {L L' : Cels} {p : Addr} (h : Le L L') (n : L' p = none) : L p = none := by
  cases e : L p with
  | none => rfl
  | some c => rw [h p c e] at n; cases n
end PD
namespace SP
open PySem PySem.Spec PyProof.Rows L2 PD
variable {g : Gb} {C CS CSc CT CE CN CB : Addr}
/-- a session at p, its scope at q, its moments at l -/
structure Ses (CS CSc : Addr) (L : Cels) (p q l : Addr) (out : DV) (ms : List DV) : Prop where
  sp : L p = some (.ins CS [("_scope", .adr q)])
  sq : L q = some (.ins CSc [("moments", .adr l), ("outer", out)])
  sl : L l = some (.lst ms)
theorem Ses.le {L L' : Cels} {p q l : Addr} {out : DV} {ms : List DV} (s : Ses CS CSc L p q l out ms) (h : Le L L') : Ses CS CSc L' p q l out ms := ⟨h _ _ s.sp, h _ _ s.sq, h _ _ s.sl⟩
theorem Ses.pq {L : Cels} {p q l : Addr} {out : DV} {ms : List DV} (s : Ses CS CSc L p q l out ms) : p ≠ l ∧ q ≠ l ∧ p ≠ q := by
  refine ⟨fun z => ?_, fun z => ?_, fun z => ?_⟩
  · have h := s.sp
    rw [z, s.sl] at h
    cases h
  · have h := s.sq
    rw [z, s.sl] at h
    cases h
  · have h := s.sp
    rw [z, s.sq] at h
    injection h with a
    injection a with _ b
    cases b
/-- other moments -/
theorem Ses.put {L : Cels} {p q l : Addr} {out : DV} {ms ms' : List DV} (s : Ses CS CSc L p q l out ms) : Ses CS CSc (cu L l (.lst ms')) p q l out ms' := ⟨by rw [cu_ne s.pq.1]; exact s.sp, by rw [cu_ne s.pq.2.1]; exact s.sq, cu_same⟩
theorem Ses.vc {K : PySem.W.Frag} {L : Cels} {p q l : Addr} {out : DV} {ms : List DV} (s : Ses CS CSc L p q l out ms) : Vc K L p (sesD CS CSc ms out) := vc_ins s.sp (.see (vc_ins s.sq (.see (vc_lst s.sl) (.same .nil))) .nil)
theorem Ses.vq {K : PySem.W.Frag} {L : Cels} {p q l : Addr} {out : DV} {ms : List DV} (s : Ses CS CSc L p q l out ms) : Vc K L q (scpD CSc ms out) := vc_ins s.sq (.see (vc_lst s.sl) (.same .nil))
theorem lk1 {a : Str} {d : DV} {r : List (Str × DV)} : ((a, d) :: r).lookup a = some d := List.lookup_cons_self
theorem lkO {x y : DV} : ([("moments", x), ("outer", y)] : List (Str × DV)).lookup ("outer" : Str) = some y := by
  rw [List.lookup_cons, show (("outer" : Str) == "moments") = false by decide +kernel]
  exact List.lookup_cons_self
/-- Scope(moments, outer) -/
theorem scScI : FnScope ["self", "moments", "outer"] ["self", "moments", "outer"] (defScope s_Scope_init) := ⟨rfl, rfl, rfl, by decide +kernel, rfl, by decide +kernel, by decide +kernel⟩
def A_sci (K : PySem.W.Frag) (CSc : Addr) : Aw := fun m ds R Z => ∃ (L : Cels) (x : Addr) (mo : DV) (ms : List DV) (out : DV), L x = some (.ins CSc []) ∧ m = cM K L ∧ (mo = .lst ms ∨ ∃ l0, mo = .adr l0 ∧ L l0 = some (.lst ms)) ∧ ds = [.adr x, mo, out] ∧ Z = noZ ∧
  R = fun d m' => d = .non ∧ ∃ l, L l = none ∧ m' = cM K (cu (cu L l (.lst ms)) x (.ins CSc [("moments", .adr l), ("outer", out)]))
theorem ok_sci (B : Bt g) (S : Ssl g CS CSc) {f : Addr} {fd : FuncData} (F : Fun g.K "__init__" "Scope.__init__" s_Scope_init f fd) : FnOk g.P g.w g.K g.mg g.base (L2.CX g.P g.w) 1 f fd ["self", "moments", "outer"] (spW g.K (A_sci g.K CSc)) := by
  refine fn_okW F scScI (fun m ds R Z ⟨L, x, mo, ms, out, _, _, _, e, _⟩ => by rw [e]; rfl) fun m ds R Z ⟨L, x, mo, ms, out, hx, em, hm, e, eZ, eR⟩ => ?_
  subst em e eZ eR
  refine dssw_cons (.of (dsm_fldL (ds := ms) S.cSc S.nM (by
    rcases hm with rfl | ⟨l0, rfl, h0⟩
    · exact dlw_listD B.list (dem_of (de_v 1)) rfl
    · exact dlw_listC B.list (dem_of (de_v 1)) h0) (fun _ => dem_of (de_v 0)) hx (by show 0 < 900; decide) fun l hn => ?_))
  refine dssw_one (dsw_fld S.cSc S.nO (DEW.ofm (d := out) (dem_of (de_v 2))) fun d m' h => ?_)
  obtain ⟨ed, em⟩ := h
  subst ed em
  refine ⟨_, x, _, dem_of (de_v 0), cu_same, by show 1 < 900; decide, rfl, l, hn, ?_⟩
  rw [cu_cu]
  congr 3
/-- the classes of what L' has are those of what L has, or these two -/
def Kn (CS CSc : Addr) (L L' : Cels) : Prop := ∀ Cs, Kin L Cs → Cs.contains CS = true → Cs.contains CSc = true → Kin L' Cs
theorem kin_ins {L : Cels} {Cs : List Addr} {p C : Addr} {gs : List (Str × DV)} (k : Kin L Cs) (h : Cs.contains C = true) : Kin (cu L p (.ins C gs)) Cs := k.cu fun C' gs' e => by cases e; exact h
theorem kin_lst {L : Cels} {Cs : List Addr} {p : Addr} {ds : List DV} (k : Kin L Cs) : Kin (cu L p (.lst ds)) Cs := k.cu fun C' gs' e => by cases e
/-- Session(file) -/
theorem scSI : FnScope ["self", "file"] ["self", "file"] (defScope s_Session_init) := ⟨rfl, rfl, rfl, by decide +kernel, rfl, by decide +kernel, by decide +kernel⟩
def A_ssi (K : PySem.W.Frag) (C CS CSc : Addr) : Aw := fun m ds R Z => ∃ (L : Cels) (x : Addr) (gs : List (Str × DV)), L x = some (.ins CS []) ∧ m = cM K L ∧ ds = [.adr x, .obj C gs] ∧ Z = noZ ∧
  R = fun d m' => d = .non ∧ ∃ L' q l, L q = none ∧ L l = none ∧ m' = cM K L' ∧ (∀ a, a ≠ x → ∀ c, L a = some c → L' a = some c) ∧ Kn CS CSc L L' ∧ Ses CS CSc L' x q l .non [momD (.obj C gs) .non .non]
theorem ok_ssi (B : Bt g) (S : Ssl g CS CSc) (Ck : Fn g 1 "check_file" (R_cfile C)) (Mk : MkW g 1 CSc "Scope" (A_sci g.K CSc)) {f : Addr} {fd : FuncData} (F : Fun g.K "__init__" "Session.__init__" s_Session_init f fd) : FnOk g.P g.w g.K g.mg g.base (L2.CX g.P g.w) 3 f fd ["self", "file"] (spW g.K (A_ssi g.K C CS CSc)) := by
  refine fn_okW F scSI (fun m ds R Z ⟨L, x, gs, _, _, e, _⟩ => by rw [e]; rfl) fun m ds R Z ⟨L, x, gs, hx, em, e, eZ, eR⟩ => ?_
  subst em e eZ eR
  refine dssw_cons (.of (dsm_ex (dem_of (de_call Ck (da_cons (de_v 1) da_nil) ⟨gs, rfl, rfl⟩)) ?_))
  refine dssw_one (dsw_fld S.cS S.nS (dew_make (L := L) (F := noZ) (R := fun y m' => ∃ l, (cu L y (.ins CSc [])) l = none ∧ m' = cM g.K (cu (cu (cu L y (.ins CSc [])) l (.lst [momD (.obj C gs) .non .non])) y (.ins CSc [("moments", .adr l), ("outer", .non)]))) Mk (dam_of (da_cons (dl_lst (da_cons (de_tup (da_cons (de_v 1) (da_cons de_non (da_cons de_non da_nil)))) da_nil)).de (da_cons de_non da_nil))) (fun y hy => ⟨cu L y (.ins CSc []), y, _, [momD (.obj C gs) .non .non], .non, cu_same, rfl, .inl rfl, rfl, rfl, rfl⟩) (fun _ _ _ z => z.elim)) fun d m' ⟨y, hy, ed, l, hl, em⟩ => ?_)
  subst ed em
  have nyl : l ≠ y := fun z => by rw [z, cu_same] at hl; cases hl
  rw [cu_ne nyl] at hl
  have nxy : x ≠ y := fun z => by rw [← z, hx] at hy; cases hy
  have nxl : x ≠ l := fun z => by rw [← z, hx] at hl; cases hl
  have e0 : cu (cu (cu L y (.ins CSc [])) l (.lst [momD (.obj C gs) .non .non])) y (.ins CSc [("moments", .adr l), ("outer", .non)]) x = some (.ins CS []) := by rw [cu_ne nxy, cu_ne nxl, cu_ne nxy]; exact hx
  refine ⟨_, x, _, dem_of (de_v 0), e0, by show 0 < 900; decide, rfl, _, y, l, hy, hl, rfl, fun a ha c hc => ?_, fun Cs k h1 h2 => kin_ins (kin_ins (kin_lst (kin_ins k h2)) h2) h1, ⟨cu_same, ?_, ?_⟩⟩
  · have n1 : a ≠ y := fun z => by rw [z, hy] at hc; cases hc
    have n2 : a ≠ l := fun z => by rw [z, hl] at hc; cases hc
    rw [cu_ne ha, cu_ne n1, cu_ne n2, cu_ne n1]
    exact hc
  · rw [cu_ne (Ne.symm nxy), cu_same]
  · rw [cu_ne (Ne.symm nxl), cu_ne nyl, cu_same]
end SP

/-! Sessions: an edit, undoing, a branch. -/
namespace PD
open PySem PySem.Spec PyProof.Rows L2 LamX
section
variable {g : Gb} {l : Lc} {ρ : Rho} {m m1 m2 m' : Mo} {a b e o : Expr} {es : List Expr} {pos px py pz pt pt2 apos cp : Pos} {kt k2 : Nat} {d d1 d2 : DV} {x y : Str} {E : Pm} {L : Cels} {ds : List DV}
theorem dsm_par (i j : Nat) (nd : l.N.Nodup) (ha : DEM g l a ρ m d1 m1) (hb : DEM g l b ρ m1 d2 m2) (q : E.nx ((ρ.set i (.val d1)).set j (.val d2)) m2) (hi : l.N[i]? = some x := by rfl) (hj : l.N[j]? = some y := by rfl) (hij : i ≠ j := by decide)
    (hx : l.sc.names.lookup x = some .local := by rfl) (hy : l.sc.names.lookup y = some .local := by rfl) (hs : ∀ env, starEach [a, b] env = (false, eval a env) :: starEach [b] env := by intro _; rfl) (hs2 : ∀ env, starEach [b] env = (false, eval b env) :: starEach [] env := by intro _; rfl)
    (hw : ∀ env, env.scope = l.sc → swappedStores [.Tuple [.Name x px, .Name y py] kt pt] (.Tuple [a, b] k2 pt2) env = pure (some [x, y]) := by intro env h; cases env; cases h; rfl)
    (hsw : ∀ env, swapsWithSole [.Tuple [.Name x px, .Name y py] kt pt] (.Tuple [a, b] k2 pt2) pos.line env = pure false := by intro _; rfl) (hcl : l.cb = true := by rfl) : DSM g l (.Assign [.Tuple [.Name x px, .Name y py] kt pt] (.Tuple [a, b] k2 pt2) pos) ρ m E :=
  DSM.by (tPar i j (tCons (UE g l a) (tCons (UE g l b) tNil))) (fun X o => ps_par (o.calm hcl) (by rw [o.N]; exact nd) (by rw [o.N]; exact hi) (by rw [o.N]; exact hj) hij (by rw [o.sc]; exact hx) (by rw [o.sc]; exact hy) (pa_cons (UE.pe o a) (pa_cons (UE.pe o b) pa_nil (hs2 _)) (hs _)) (hw _ o.sc) (hsw _))
    fun S0 H0 B σ S H D s o => ha S0 H0 B σ S H s _ fun v1 S1 H1 s1 e1 r1 => hb S0 H0 B σ S1 H1 s1 _ fun v2 S2 H2 s2 e2 r2 => ⟨v1, v2, rfl, o.nx _ _ _ S2 H2 q ((s2.set (r1.up e2)).set r2)⟩
/-- a statement that does not touch the cells, and only goes on -/
theorem dsm_pl {st : Stmt} (h : DS g l st ρ { nx := fun ρ' => E.nx ρ' m }) : DSM g l st ρ m E := dsm_of h (fun _ z => z) (fun _ z => z) (fun _ z => z.elim) fun _ z => z.elim
/-- x.pop(), x a list cell -/
theorem evu_pop {K : PySem.W.Frag} {te : TE} {lc : Addr} (h : EvU K te ρ m (.adr lc) (cM K L)) (hl : L lc = some (.lst (ds ++ [d]))) : EvU K (tBM0 K "list" rPop te) ρ m d (cM K (cu L lc (.lst ds))) := fun S0 H0 B σ S H s Q q =>
  h S0 H0 B σ S H s _ fun v S1 H1 s1 e1 r1 => by
    cases r1
    obtain ⟨vs, a, rv⟩ := s1.cel hl
    obtain ⟨us, w, rfl⟩ : ∃ us w, vs = us ++ [w] := by
      have hn : vs ≠ [] := fun z => by
        have := rv.len
        rw [z] at this
        simp at this
      exact ⟨vs.dropLast, vs.getLast hn, (List.dropLast_concat_getLast hn).symm⟩
    have ln : us.length = ds.length := by
      have := rv.len
      simp at this
      exact this
    have r0 : RpA K S1 us ds := by
      have := rv.take us.length
      rw [List.take_left, ln, List.take_left] at this
      exact this
    have r2 : Rp K S1 w d := rv.getV (i := us.length) (by simp) (by rw [ln]; simp)
    refine ⟨.inl ⟨rfl, _, .inl (.inl a)⟩, lc, us ++ [w], w, rfl, rfl, a, by simp, ?_⟩
    rw [List.dropLast_concat]
    exact q w S1 _ (s1.cput hl ⟨us, upd_same, r0⟩) e1 r2
theorem dem_pop {lc : Addr} (h : DEM g l o ρ m (.adr lc) (cM g.K L)) (hl : L lc = some (.lst (ds ++ [d]))) (hbase : ∀ env, attributeBase o ("pop" : Str) env (eval o env) = eval o env := by intro _; rfl) (hline : (apos.endLine == cp.line) = true := by rfl) : DEM g l (.Call (.Attribute o "pop" apos) [] [] cp) ρ m d (cM g.K (cu L lc (.lst ds))) :=
  .by (tBM0 g.K "list" rPop (UE g l o)) (fun X x => by
    have := pe_bm0 (X := X) (apos := apos) (cpos := cp) PySem.F.plainAttrs_list PySem.F.slot_list_pop PySem.F.type_list_pop mt_pop (UE.pe x o) (hbase _) hline
    rw [x.K] at this
    exact this) (evu_pop h hl)
end
end PD

/-! Sessions: edit, undo, branch. -/
namespace SP
open PySem PySem.Spec PyProof.Rows L2 PD
variable {g : Gb} {C CS CSc CT CE CN CB : Addr}
theorem clns_map {Cs : List Addr} {α : Type} (f : α → DV) (h : ∀ a, (f a).cln Cs = true) : ∀ l : List α, clnAll Cs (l.map f) = true
  | [] => by rw [List.map_nil, clnAll]
  | a :: l => by rw [List.map_cons, clnAll, h a, clns_map f h l]; rfl
theorem cln_file {Cs : List Addr} {ls : Str} {ps : List Str} {od : List Nat} {pp op : Int} {tn : Bool} (h : Cs.contains C = false) : (fileD C ls ps od pp op tn).cln Cs = true := by
  have h1 : clnAll Cs (psD ps) = true := clns_map _ (fun a => by rw [DV.cln]) ps
  have h2 : clnAll Cs (odD od) = true := clns_map _ (fun a => by rw [DV.cln]) od
  unfold fileD fgs
  rw [DV.cln, h]
  simp only [clnFs, DV.cln, h1, h2]
  rfl
theorem cln_aim {Cs : List Addr} {am : Option Str} : (aimD am).cln Cs = true := by
  cases am <;> (unfold aimD; rw [DV.cln])
abbrev seN : List Str := ["self", "edit", "file", "aim", "answer"]
theorem scSEdit : FnScope seN ["self", "edit"] (defScope s_Session_edit) := ⟨rfl, rfl, rfl, by decide +kernel, rfl, by decide +kernel, by decide +kernel⟩
/-- what an edit finds -/
structure EdIn (C CS CSc : Addr) (Cs : List Addr) (L : Cels) (p q l : Addr) (out : DV) (ms0 : List DV) (ls : Str) (ps : List Str) (od : List Nat) (pp op : Int) (tn : Bool) (am : Option Str) (pr : DV) : Prop where
  s : Ses CS CSc L p q l out (ms0 ++ [momD (fileD C ls ps od pp op tn) (aimD am) pr])
  k : Kin L Cs
  c : Cs.contains C = false
  v : VF ls ps od pp op
  a : okAim ls am
  n : ms0.length < 9000
def newMom (C : Addr) (ls : Str) (pp op : Int) (tn : Bool) (ps : List Str) (od : List Nat) (am : Option Str) (e : Ed) : DV :=
  momD (fileD C ls (edRes tn ps od am e).1 (edRes tn ps od am e).2.1 pp op tn) (aimD (edRes tn ps od am e).2.2.1) (.tup [e.d, (edRes tn ps od am e).2.2.2])
def A_sed (K : PySem.W.Frag) (C CS CSc CE : Addr) (Cs : List Addr) : Aw := fun m ds R Z => ∃ (L : Cels) (p q l : Addr) (out : DV) (ms0 : List DV) (ls : Str) (ps : List Str) (od : List Nat) (pp op : Int) (tn : Bool) (am : Option Str) (pr v : DV), EdIn C CS CSc Cs L p q l out ms0 ls ps od pp op tn am pr ∧ m = cM K L ∧ ds = [.adr p, v] ∧
  ((∃ e, v = Ed.d e ∧ okEd ls ps od e ∧ Z = noZ ∧ R = fun d m' => d = (edRes tn ps od am e).2.2.2 ∧ m' = cM K (cu L l (.lst (ms0 ++ [momD (fileD C ls ps od pp op tn) (aimD am) pr] ++ [newMom C ls pp op tn ps od am e])))) ∨
   (fit v = true ∧ isEd ls ps od v = false ∧ R = (fun _ _ => False) ∧ Z = fun C' gs m' => C' = CE ∧ gs = [] ∧ m' = cM K L))
theorem fit_ed {ls : Str} {ps : List Str} {od : List Nat} {e : Ed} (h : okEd ls ps od e) : fit e.d = true := by
  cases e with
  | aim t =>
    have h1 := wordOk_len h
    show fit (.tup [.str "aim", .str t]) = true
    rw [fit, fits, fits, fits, fit, fit, decide_eq_true (show ([.str "aim", .str t] : List DV).length ≤ 100000 from (by decide : 2 ≤ 100000)), decide_eq_true (show ("aim" : Str).length ≤ 100000 by decide +kernel), decide_eq_true (show t.length ≤ 100000 by omega)]
    rfl
  | wr w =>
    show fit (.tup [.str "write", w.d]) = true
    rw [fit, fits, fits, fits, fit, fit_wr h.1, decide_eq_true (show ([.str "write", w.d] : List DV).length ≤ 100000 from (by decide : 2 ≤ 100000)), decide_eq_true (show ("write" : Str).length ≤ 100000 by decide +kernel)]
    rfl
theorem ok_sed (S : Ssl g CS CSc) (Cu : Pr g 1 CS "current" (R_scur CS CSc)) (Am : Pr g 1 CS "aim" (R_saim CS CSc)) (Ce : FnZ g 7 "check_edit" (R_ceditZ C CE)) (Ed' : Fn g 8 "edited" (R_edited C)) {Cs : List Addr} {f : Addr} {fd : FuncData} (F : Fun g.K "edit" "Session.edit" s_Session_edit f fd) : FnOk g.P g.w g.K g.mg g.base (L2.CX g.P g.w) 9 f fd ["self", "edit"] (spW g.K (A_sed g.K C CS CSc CE Cs)) := by
  refine fn_okW F scSEdit (fun m ds R Z ⟨L, p, q, l, out, ms0, ls, ps, od, pp, op, tn, am, pr, v, _, _, e, _⟩ => by rw [e]; rfl) fun m ds R Z ⟨L, p, q, l, out, ms0, ls, ps, od, pp, op, tn, am, pr, v, I, em, e, h⟩ => ?_
  subst em e
  have tw : wordOk ls 6 (textOf ps od) = true := text_word I.v.v.hp I.v.v.hod I.v.v.hb
  refine dssw_cons (.of (dsm_par 2 3 scSEdit.nd
    (dem_lendC 0 I.k I.s.vc rfl (de_prop S.cS Cu ⟨ms0, fileD C ls ps od pp op tn, aimD am, pr, out, rfl, rfl⟩ (de_v 0)) (cln_file I.c))
    (dem_lendC 0 I.k I.s.vc rfl (de_prop S.cS Am ⟨ms0, fileD C ls ps od pp op tn, aimD am, pr, out, rfl, rfl⟩ (de_v 0)) cln_aim) ?_))
  rcases h with ⟨ed, rfl, he, rfl, rfl⟩ | ⟨hf, hn, rfl, rfl⟩
  · refine dssw_cons (dsw_ex (R := fun d m' => m' = cM g.K L) (dew_callZ (ou := .val .non) Ce (dam_of (da_cons (de_v 2) (da_cons (de_v 1) da_nil))) ⟨ls, ps, od, pp, op, tn, ed.d, I.v.v, fit_ed he, rfl, by rw [isEd_d he]; rfl⟩ (fun d _ => rfl) (fun C gs e => by cases e)) fun d m' em => ?_)
    subst em
    refine dssw_cons (.of (dsm_pl (ds_asg (de_call Ed' (da_cons (de_v 2) (da_cons (de_v 3) (da_cons (de_v 1) da_nil))) ⟨ls, ps, od, pp, op, tn, am, ed, I.v, tw, I.a, he, rfl, rfl⟩) (dg_tup (dgs_cons (dg_n 2 scSEdit.nd) (dgs_cons (dg_n 3 scSEdit.nd) (dgs_cons (dg_n 4 scSEdit.nd) dgs_nil)))) ?_)))
    refine dssw_cons (.of (dsm_capp (dem_fld S.cSc S.nM (dem_fld S.cS S.nS (dem_of (de_v 0)) I.s.sp lk1) I.s.sq lk1) I.s.sl (dem_of (de_tup (da_cons (de_v 2) (da_cons (de_v 3) (da_cons (de_tup (da_cons (de_v 1) (da_cons (de_v 4) da_nil))) da_nil))))) (by rw [List.length_append, List.length_singleton]; have := I.n; omega) ?_))
    exact dssw_one (.of (dsm_ret (dem_of (de_v 4)) ⟨rfl, rfl⟩))
  · exact dssw_cons (dsw_ex (R := fun _ _ => False) (dew_callZ (ou := .exc CE []) Ce (dam_of (da_cons (de_v 2) (da_cons (de_v 1) da_nil))) ⟨ls, ps, od, pp, op, tn, v, I.v.v, hf, rfl, by rw [hn]; rfl⟩ (fun d e => by cases e) (fun C gs e => by cases e; exact ⟨rfl, rfl, rfl⟩)) fun d m' h => h.elim)
/-- undo, outside of all trials -/
theorem scSUndo : FnScope ["self", "scope"] ["self"] (defScope s_Session_undo) := ⟨rfl, rfl, rfl, by decide +kernel, rfl, by decide +kernel, by decide +kernel⟩
def A_sun (K : PySem.W.Frag) (CS CSc CN : Addr) : Aw := fun m ds R Z => ∃ (L : Cels) (p q l : Addr) (m0 : DV) (ms : List DV), Ses CS CSc L p q l .non (m0 :: ms) ∧ m = cM K L ∧ ms.length < 9000 ∧ ds = [.adr p] ∧
  ((ms = [] ∧ R = (fun _ _ => False) ∧ Z = fun C' gs m' => C' = CN ∧ gs = [] ∧ m' = cM K L) ∨
   (∃ ms1 f a pr, ms = ms1 ++ [momD f a pr] ∧ Z = noZ ∧ R = fun d m' => d = pr ∧ m' = cM K (cu L l (.lst (m0 :: ms1)))))
theorem ok_sun (B : Bt g) (S : Ssl g CS CSc) (Xn : Xc g CN "NothingDone") (Fi : Me g 1 CSc "fixed" (R_fixed CSc)) {f : Addr} {fd : FuncData} (F : Fun g.K "undo" "Session.undo" s_Session_undo f fd) : FnOk g.P g.w g.K g.mg g.base (L2.CX g.P g.w) 3 f fd ["self"] (spW g.K (A_sun g.K CS CSc CN)) := by
  refine fn_okW F scSUndo (fun m ds R Z ⟨L, p, q, l, m0, ms, _, _, _, e, _⟩ => by rw [e]; rfl) fun m ds R Z ⟨L, p, q, l, m0, ms, I, em, hn, e, h⟩ => ?_
  subst em e
  refine dssw_cons (.of (dsm_set 1 scSUndo.nd (dem_fld S.cS S.nS (dem_of (de_v 0)) I.sp lk1) ?_))
  refine dssw_cons (dsw_if (b := decide (((m0 :: ms).length : Int) = 1)) (dtm_lendV 1 I.vq rfl (dt_eqI (de_len B.len rfl (de_moms S (de_v 1))) (de_meth0 S.cSc Fi (scgs_no (by decide +kernel) (by decide +kernel)) ⟨m0 :: ms, rfl, rfl⟩ (de_v 1)))) (fun h1 => ?_) fun h1 => dssw_nil ?_)
  · have e0 := of_decide_eq_true h1
    rcases h with ⟨rfl, rfl, rfl⟩ | ⟨ms1, f, a, pr, rfl, _, _⟩
    · exact dssw_one (dsw_raise0 Xn ⟨rfl, rfl, rfl⟩)
    · simp at e0
      omega
  · have e0 := of_decide_eq_false h1
    rcases h with ⟨rfl, rfl, rfl⟩ | ⟨ms1, f, a, pr, rfl, rfl, rfl⟩
    · exact absurd rfl e0
    · exact dssw_one (.of (dsm_ret (dem_ixT (xs := [f, a, pr]) (j := 2) rfl (dem_pop (ds := m0 :: ms1) (d := momD f a pr) (dem_fld S.cSc S.nM (dem_of (de_v 1)) I.sq lk1) I.sl) de_int) ⟨rfl, rfl⟩))
end SP

/-! Sessions: branches; trials: entered and left. -/
namespace PD
open PySem PySem.Spec PyProof.Rows L2 LamX
/-- o.f = e, nothing raised -/
theorem dsm_cfld {g : Gb} {l : Lc} {ρ : Rho} {m : Mo} {e o : Expr} {pos p2 : Pos} {f : Str} {d : DV} {L : Cels} {C p : Addr} {gs : List (Str × DV)} {E : Pm} (c : Cls g.K C) (n : NoAttr g.K C f) (h : DEM g l e ρ m d (cM g.K L)) (ho : DEM g l o ρ (cM g.K L) (.adr p) (cM g.K L)) (hp : L p = some (.ins C gs)) (hl : gs.length < 900) (q : E.nx ρ (cM g.K (cu L p (.ins C (putG f d gs))))) (hs : ∀ env, swapsWith e (some (.Attribute o f p2)) pos.line env = pure false := by intro _; rfl) : DSM g l (.Assign [.Attribute o f p2] e pos) ρ m E :=
  DSM.by (sFld g.K (UE g l o) (UE g l e) f) (fun X x => by
    have := ps_fld (X := X) (o := o) (f := f) (pos' := p2) (pos := pos) (UE.pe x o) (UE.pe x e) (hs _)
    rw [x.K] at this
    exact this) fun S0 H0 B σ S H D s ok => stw_fld (tz := fun _ => UE g l e) (Z := fun _ _ _ _ => False) c n (EvW.of (EvU.r h)) (fun d' m' h' => by
      obtain ⟨rfl, rfl⟩ := h'
      exact ⟨L, p, gs, ho, hp, hl, q⟩) S0 H0 B σ S H D (fun _ _ _ _ => True) s ok (fun _ _ _ _ _ _ _ _ _ z => z.elim)
end PD
namespace SP
open PySem PySem.Spec PyProof.Rows L2 PD
variable {g : Gb} {C CS CSc CT CE CN CB : Addr}
theorem scSBranch : FnScope ["self", "twin"] ["self"] (defScope s_Session_branch) := ⟨rfl, rfl, rfl, by decide +kernel, rfl, by decide +kernel, by decide +kernel⟩
def A_sbr (K : PySem.W.Frag) (C CS CSc : Addr) (Cs : List Addr) : Aw := fun m ds R Z => ∃ (L : Cels) (p q l : Addr) (out : DV) (ms0 : List DV) (ls : Str) (ps : List Str) (od : List Nat) (pp op : Int) (tn : Bool) (am : Option Str) (pr : DV), EdIn C CS CSc Cs L p q l out ms0 ls ps od pp op tn am pr ∧ m = cM K L ∧ ds = [.adr p] ∧ Z = noZ ∧
  R = fun d m' => ∃ L' x q' l', d = .adr x ∧ m' = cM K L' ∧ L x = none ∧ L q' = none ∧ L l' = none ∧ Le L L' ∧ Kn CS CSc L L' ∧ Ses CS CSc L' x q' l' .non (ms0 ++ [momD (fileD C ls ps od pp op tn) (aimD am) pr])
theorem ok_sbr (S : Ssl g CS CSc) (Cu : Pr g 1 CS "current" (R_scur CS CSc)) (Mk : MkW g 3 CS "Session" (A_ssi g.K C CS CSc)) (Mc : MkW g 1 CSc "Scope" (A_sci g.K CSc)) {Cs : List Addr} {f : Addr} {fd : FuncData} (F : Fun g.K "branch" "Session.branch" s_Session_branch f fd) : FnOk g.P g.w g.K g.mg g.base (L2.CX g.P g.w) 5 f fd ["self"] (spW g.K (A_sbr g.K C CS CSc Cs)) := by
  refine fn_okW F scSBranch (fun m ds R Z ⟨L, p, q, l, out, ms0, ls, ps, od, pp, op, tn, am, pr, _, _, e, _⟩ => by rw [e]; rfl) fun m ds R Z ⟨L, p, q, l, out, ms0, ls, ps, od, pp, op, tn, am, pr, I, em, e, eZ, eR⟩ => ?_
  subst em e eZ eR
  refine dssw_cons (dsw_set 1 scSBranch.nd (dew_make (L := L) (F := noZ) (R := fun x m' => ∃ L' q' l', (cu L x (.ins CS [])) q' = none ∧ (cu L x (.ins CS [])) l' = none ∧ m' = cM g.K L' ∧ (∀ a, a ≠ x → ∀ c, (cu L x (.ins CS [])) a = some c → L' a = some c) ∧ Kn CS CSc (cu L x (.ins CS [])) L' ∧ Ses CS CSc L' x q' l' .non [momD (fileD C ls ps od pp op tn) .non .non]) Mk
    (dam_cons (dem_lendC 0 I.k I.s.vc rfl (de_prop S.cS Cu ⟨ms0, fileD C ls ps od pp op tn, aimD am, pr, out, rfl, rfl⟩ (de_v 0)) (cln_file I.c)) dam_nil) (fun x hx => ⟨cu L x (.ins CS []), x, fgs ls ps od pp op tn, cu_same, rfl, rfl, rfl, ?_⟩) (fun _ _ _ z => z.elim)) fun d m' h => ?_)
  · funext d m'
    rfl
  obtain ⟨x, hx, rfl, L1, q1, l1, hq1, hl1, rfl, keep, kn1, s1⟩ := h
  have le1 : Le L L1 := fun a c h => by
    have w : a ≠ x := fun z => by rw [z, hx] at h; cases h
    exact keep a w c (by rw [cu_ne w]; exact h)
  have sp := I.s.le le1
  -- twin._scope = Scope(self._scope.moments, None)
  refine dssw_cons (dsw_fld S.cS S.nS (dew_make (L := L1) (F := noZ) (R := fun y m' => ∃ l', (cu L1 y (.ins CSc [])) l' = none ∧ m' = cM g.K (cu (cu (cu L1 y (.ins CSc [])) l' (.lst (ms0 ++ [momD (fileD C ls ps od pp op tn) (aimD am) pr]))) y (.ins CSc [("moments", .adr l'), ("outer", .non)]))) Mc
    (dam_cons (dem_fld S.cSc S.nM (dem_fld S.cS S.nS (dem_of (de_v 0)) sp.sp lk1) sp.sq lk1) (dam_cons (dem_of de_non) dam_nil)) (fun y hy => ⟨cu L1 y (.ins CSc []), y, _, _, .non, cu_same, rfl, .inr ⟨l, rfl, Le.new hy _ _ sp.sl⟩, rfl, rfl, rfl⟩) (fun _ _ _ z => z.elim)) fun d m' h => ?_)
  obtain ⟨y, hy, rfl, l', hl', rfl⟩ := h
  have nly : l' ≠ y := fun z => by rw [z, cu_same] at hl'; cases hl'
  rw [cu_ne nly] at hl'
  have nxy : x ≠ y := fun z => by rw [← z, s1.sp] at hy; cases hy
  have nxl : x ≠ l' := fun z => by rw [← z, s1.sp] at hl'; cases hl'
  have e0 : cu (cu (cu L1 y (.ins CSc [])) l' (.lst (ms0 ++ [momD (fileD C ls ps od pp op tn) (aimD am) pr]))) y (.ins CSc [("moments", .adr l'), ("outer", .non)]) x = some (.ins CS [("_scope", .adr q1)]) := by rw [cu_ne nxy, cu_ne nxl, cu_ne nxy]; exact s1.sp
  refine ⟨_, x, _, dem_of (de_v 1), e0, by show 1 < 900; decide, dssw_one (.of (dsm_ret (dem_of (de_v 1)) ⟨_, x, y, l', rfl, rfl, hx, le1.free hy, le1.free hl', fun a c h => ?_, fun Cs k h1 h2 => kin_ins (kin_ins (kin_lst (kin_ins (kn1 Cs (kin_ins k h1) h1 h2) h2)) h2) h1, ⟨?_, ?_, ?_⟩⟩))⟩
  · have w : a ≠ x := fun z => by rw [z, hx] at h; cases h
    have h1 := le1 a c h
    have w1 : a ≠ y := fun z => by rw [z, hy] at h1; cases h1
    have w2 : a ≠ l' := fun z => by rw [z, hl'] at h1; cases h1
    rw [cu_ne w, cu_ne w1, cu_ne w2, cu_ne w1]
    exact h1
  · rw [cu_same]
    congr 2
  · rw [cu_ne (Ne.symm nxy), cu_same]
  · rw [cu_ne (Ne.symm nxl), cu_ne nly, cu_same]
/-- Trial(session) -/
theorem scTI : FnScope ["self", "session"] ["self", "session"] (defScope s_Trial_init) := ⟨rfl, rfl, rfl, by decide +kernel, rfl, by decide +kernel, by decide +kernel⟩
def A_tri (K : PySem.W.Frag) (CT : Addr) : Aw := fun m ds R Z => ∃ (L : Cels) (x p : Addr), L x = some (.ins CT []) ∧ m = cM K L ∧ ds = [.adr x, .adr p] ∧ Z = noZ ∧ R = fun d m' => d = .non ∧ m' = cM K (cu L x (.ins CT [("session", .adr p)]))
structure Tl (g : Gb) (CT : Addr) : Prop where
  c : Cls g.K CT
  n : NoAttr g.K CT "session"
theorem ok_tri (T : Tl g CT) {f : Addr} {fd : FuncData} (F : Fun g.K "__init__" "Trial.__init__" s_Trial_init f fd) : FnOk g.P g.w g.K g.mg g.base (L2.CX g.P g.w) 1 f fd ["self", "session"] (spW g.K (A_tri g.K CT)) := by
  refine fn_okW F scTI (fun m ds R Z ⟨L, x, p, _, _, e, _⟩ => by rw [e]; rfl) fun m ds R Z ⟨L, x, p, hx, em, e, eZ, eR⟩ => ?_
  subst em e eZ eR
  refine dssw_one (dsw_fld T.c T.n (DEW.ofm (d := .adr p) (dem_of (de_v 1))) fun d m' h => ?_)
  obtain ⟨rfl, rfl⟩ := h
  exact ⟨L, x, [], dem_of (de_v 0), hx, by show 0 < 900; decide, rfl, rfl⟩
theorem scSTrial : FnScope ["self"] ["self"] (defScope s_Session_trial) := ⟨rfl, rfl, rfl, by decide +kernel, rfl, by decide +kernel, by decide +kernel⟩
def A_str (K : PySem.W.Frag) (CT : Addr) : Aw := fun m ds R Z => ∃ (L : Cels) (p : Addr), m = cM K L ∧ ds = [.adr p] ∧ Z = noZ ∧ R = fun d m' => ∃ x, L x = none ∧ d = .adr x ∧ m' = cM K (cu L x (.ins CT [("session", .adr p)]))
theorem ok_str (Mk : MkW g 1 CT "Trial" (A_tri g.K CT)) {f : Addr} {fd : FuncData} (F : Fun g.K "trial" "Session.trial" s_Session_trial f fd) : FnOk g.P g.w g.K g.mg g.base (L2.CX g.P g.w) 3 f fd ["self"] (spW g.K (A_str g.K CT)) := by
  refine fn_okW F scSTrial (fun m ds R Z ⟨L, p, _, e, _⟩ => by rw [e]; rfl) fun m ds R Z ⟨L, p, em, e, eZ, eR⟩ => ?_
  subst em e eZ eR
  refine dssw_one (dsw_ret (dew_make (L := L) (F := noZ) (R := fun x m' => m' = cM g.K (cu (cu L x (.ins CT [])) x (.ins CT [("session", .adr p)]))) Mk (dam_of (da_cons (de_v 0) da_nil)) (fun x hx => ⟨_, x, p, cu_same, rfl, rfl, rfl, rfl⟩) (fun _ _ _ z => z.elim)) fun d m' h => ?_)
  obtain ⟨x, hx, rfl, rfl⟩ := h
  exact ⟨x, hx, rfl, by rw [cu_cu]⟩
/-- a trial is entered -/
theorem scTEnter : FnScope ["self", "session"] ["self"] (defScope s_Trial_enter) := ⟨rfl, rfl, rfl, by decide +kernel, rfl, by decide +kernel, by decide +kernel⟩
def A_ten (K : PySem.W.Frag) (CS CSc CT : Addr) : Aw := fun m ds R Z => ∃ (L : Cels) (t p q l : Addr) (out : DV) (ms : List DV), Ses CS CSc L p q l out ms ∧ L t = some (.ins CT [("session", .adr p)]) ∧ m = cM K L ∧ ds = [.adr t] ∧ Z = noZ ∧
  R = fun d m' => ∃ L' q' l', d = .adr p ∧ m' = cM K L' ∧ L q' = none ∧ L l' = none ∧ (∀ a, a ≠ p → ∀ c, L a = some c → L' a = some c) ∧ Kn CS CSc L L' ∧ Ses CS CSc L' p q' l' (.adr q) ms
theorem ok_ten (S : Ssl g CS CSc) (T : Tl g CT) (Mc : MkW g 1 CSc "Scope" (A_sci g.K CSc)) {f : Addr} {fd : FuncData} (F : Fun g.K "__enter__" "Trial.__enter__" s_Trial_enter f fd) : FnOk g.P g.w g.K g.mg g.base (L2.CX g.P g.w) 3 f fd ["self"] (spW g.K (A_ten g.K CS CSc CT)) := by
  refine fn_okW F scTEnter (fun m ds R Z ⟨L, t, p, q, l, out, ms, _, _, _, e, _⟩ => by rw [e]; rfl) fun m ds R Z ⟨L, t, p, q, l, out, ms, I, ht, em, e, eZ, eR⟩ => ?_
  subst em e eZ eR
  refine dssw_cons (.of (dsm_set 1 scTEnter.nd (dem_fld T.c T.n (dem_of (de_v 0)) ht lk1) ?_))
  refine dssw_cons (dsw_fld S.cS S.nS (dew_make (L := L) (F := noZ) (R := fun y m' => ∃ l', (cu L y (.ins CSc [])) l' = none ∧ m' = cM g.K (cu (cu (cu L y (.ins CSc [])) l' (.lst ms)) y (.ins CSc [("moments", .adr l'), ("outer", .adr q)]))) Mc
    (dam_cons (dem_fld S.cSc S.nM (dem_fld S.cS S.nS (dem_of (de_v 1)) I.sp lk1) I.sq lk1) (dam_cons (dem_fld S.cS S.nS (dem_of (de_v 1)) I.sp lk1) dam_nil)) (fun y hy => ⟨cu L y (.ins CSc []), y, _, _, .adr q, cu_same, rfl, .inr ⟨l, rfl, Le.new hy _ _ I.sl⟩, rfl, rfl, rfl⟩) (fun _ _ _ z => z.elim)) fun d m' h => ?_)
  obtain ⟨y, hy, rfl, l', hl', rfl⟩ := h
  have nly : l' ≠ y := fun z => by rw [z, cu_same] at hl'; cases hl'
  rw [cu_ne nly] at hl'
  have npy : p ≠ y := fun z => by rw [← z, I.sp] at hy; cases hy
  have npl : p ≠ l' := fun z => by rw [← z, I.sp] at hl'; cases hl'
  have e0 : cu (cu (cu L y (.ins CSc [])) l' (.lst ms)) y (.ins CSc [("moments", .adr l'), ("outer", .adr q)]) p = some (.ins CS [("_scope", .adr q)]) := by rw [cu_ne npy, cu_ne npl, cu_ne npy]; exact I.sp
  refine ⟨_, p, _, dem_of (de_v 1), e0, by show 1 < 900; decide, dssw_one (.of (dsm_ret (dem_of (de_v 1)) ⟨_, y, l', rfl, rfl, hy, hl', fun a ha c h => ?_, fun Cs k h1 h2 => kin_ins (kin_ins (kin_lst (kin_ins k h2)) h2) h1, ⟨?_, ?_, ?_⟩⟩))⟩
  · have w1 : a ≠ y := fun z => by rw [z, hy] at h; cases h
    have w2 : a ≠ l' := fun z => by rw [z, hl'] at h; cases h
    rw [cu_ne ha, cu_ne w1, cu_ne w2, cu_ne w1]
    exact h
  · rw [cu_same]
    congr 2
  · rw [cu_ne (Ne.symm npy), cu_same]
  · rw [cu_ne (Ne.symm npl), cu_ne nly, cu_same]
/-- a trial is left, where one stands -/
abbrev txN : List Str := ["self", "kind", "value", "trace", "session"]
theorem scTExit : FnScope txN ["self", "kind", "value", "trace"] (defScope s_Trial_exit) := ⟨rfl, rfl, rfl, by decide +kernel, rfl, by decide +kernel, by decide +kernel⟩
theorem body_exit (S : Ssl g CS CSc) (T : Tl g CT) {l : Lc} (hN : l.N = txN) (hsc : l.sc = defScope s_Trial_exit) {L : Cels} {t p q : Addr} {mo out d1 d2 d3 : DV} {E : Pm} (ht : L t = some (.ins CT [("session", .adr p)])) (hp : L p = some (.ins CS [("_scope", .adr q)])) (hq : L q = some (.ins CSc [("moments", mo), ("outer", out)]))
    (h : E.nx [.val (.adr t), .val d1, .val d2, .val d3, .val (.adr p)] (cM g.K (cu L p (.ins CS [("_scope", out)])))) : DSsM g l (defBody s_Trial_exit) (rho0 txN [.adr t, d1, d2, d3]) (cM g.K L) E := by
  obtain ⟨k, N, sc, fn, cb, ex⟩ := l
  cases hN
  cases hsc
  refine dssm_cons (dsm_set 4 scTExit.nd (dem_fld T.c T.n (dem_of (de_v 0)) ht lk1) ?_ (hf := .inr rfl))
  exact dssm_one (dsm_cfld S.cS S.nS (dem_fld S.cSc S.nO (dem_fld S.cS S.nS (dem_of (de_v 4)) hp lk1) hq lkO) (dem_of (de_v 4)) hp (by show 1 < 900; decide) h)
end SP

/-! with C(..): body, where the body may raise and C's __exit__ hands back None. -/
namespace PD
open PySem PySem.Spec PyProof.Rows L2 PySem.W PySem.Calls
/-- __exit__ is called with what was raised; then it goes on -/
def WithBad (M : Model) (A : Around) (Q : Flow → Shared → Prop) (E : Value → Shared → Prop) (env : Env) (x fx : Addr) (e : Value) (s : Shared) : Prop :=
  wpAny M A (noteFrame e env) (fun _ s1 => wpAny M A (setFlight e none) (fun _ s2 => wpAny M A (do let c ← typeOf e; let t ← tracebackOf e; withItem.marked e (.call (.ref fx) ⟨[.ref x, c, e, t], []⟩)) (fun r s3 => r = .none ∧ wpAny M A (PySem.passOn "with" e env) Q E s3) E s2) E s1) E s
theorem with_core {prog : Program} {w : World} {A : Around} {E : Value → Shared → Prop} {s : Shared} {env : Env} {K : Frag} {x C fe fx : Addr} {ox : Obj} {od : Option Obj} {pos : Pos} {bdy : Sem Flow} {Q : Flow → Shared → Prop} (KI : K.In s.heap) (I : InstAt s.heap x ox C od) (h1 : findIn K (.ref C) "__enter__" = some (some (.ref fe))) (h2 : isFn K (.ref fe) = true) (h3 : findIn K (.ref C) "__exit__" = some (some (.ref fx))) (h4 : isFn K (.ref fx) = true)
    (h : wpAny (model prog w) A (call (.ref fe) [.ref x]) (fun _ s2 => wpAny (model prog w) A bdy (fun f s4 => wpAny (model prog w) A (call (.ref fx) [.ref x, .none, .none, .none]) (fun _ s5 => Q f s5) E s4) (WithBad (model prog w) A Q E env x fx) s2) E s) : wpAny (model prog w) A (withItem false pos env (pure (.ref x)) none bdy) Q E s := by
  obtain ⟨cd, hcd, ae⟩ := kw_along h1
  obtain ⟨cd', hcd', ax⟩ := kw_along h3
  cases hcd.symm.trans hcd'
  obtain ⟨hh, g, d, tt, os⟩ := s
  have La := kw_special (M := model prog w) (name := "__enter__") KI I hcd ae
  have Lb := kw_special (M := model prog w) (name := "__exit__") KI I hcd ax
  have Lc : Looks (model prog w) hh (bindSpecial (.ref fe) (.ref x)) (.ref fe, [.ref x]) := bind_fn KI _ (beq_iff_eq.mp h2)
  have Ld : Looks (model prog w) hh (bindSpecial (.ref fx) (.ref x)) (.ref fx, [.ref x]) := bind_fn KI _ (beq_iff_eq.mp h4)
  have Lg : Looks (model prog w) hh (aMethodOfAnotherBuiltinTypeStops (.ref fe) cd.mro) () := Looks.of_pure rfl
  have Lf : Looks (model prog w) hh (aMethodOfAnotherBuiltinTypeStops (.ref fx) cd.mro) () := Looks.of_pure rfl
  unfold withItem
  refine wpAny_bind (wpAny_pure (wpAny_bind (wpAny_standAt ?_)))
  simp only [Bool.false_eq_true, if_false]
  kw_lk
  refine wpAny_mono h (fun v s2 k2 => ?_) fun _ _ z => z
  kw_lk
  refine wpAny_attempt (kw_held (show wpAny _ _ bdy _ _ _ from wpAny_mono k2 (fun f s4 k4 => ?_) fun e s4 z => ?_))
  · kw_lk
    refine wpAny_mono k4 (fun _ s5 k5 => ?_) fun _ _ z => z
    kw_lk
    exact k5
  · refine wpAny_bind (wpAny_mono z (fun _ s5 z1 => wpAny_bind (wpAny_mono z1 (fun _ s6 z2 => wpAny_bind (wpAny_standAt (wpAny_holding ?_))) fun _ _ z => z)) fun _ _ z => z)
    have e1 : ∀ {α : Type} (m : Value → Sem α), (do let c ← typeOf e; let t ← tracebackOf e; let r ← withItem.marked e (.call (.ref fx) ⟨[Value.ref x] ++ [c, e, t], []⟩); m r) = (do let r ← (do let c ← typeOf e; let t ← tracebackOf e; withItem.marked e (.call (.ref fx) ⟨[Value.ref x, c, e, t], []⟩)); m r) := fun m => by
      simp only [bind_assoc]
      rfl
    refine (e1 _).symm ▸ wpAny_bind (wpAny_mono z2 (fun r s7 z3 => ?_) fun _ _ z => z)
    obtain ⟨rfl, z3⟩ := z3
    exact wpAny_bind (wpAny_pure (wpAny_bind (wpAny_pure z3)))
end PD

/-! A def called while an exception is handled; with, both ways, in a context. -/
namespace PD
open PySem PySem.Spec PyProof.Rows L2
theorem fn_hot {P : Program} {w : World} {K : PySem.W.Frag} {mg : Str → Option Value} {base : Heap} {k : Nat} {f : Addr} {fd : FuncData} {x qual : Str} {st : Stmt} {N ps : List Str} {A : Around} {outer : List Env} {s : Shared} {H : Hp} {args : Args} {us : List Value} {vs : List V} {Q : VK} {E : XK} {pin : Addr × Obj}
    (F : Fun K x qual st f fd) (S : FnScope N ps (defScope st)) (hl : vs.length = ps.length) (hr : L2H.RoomH (k + 1) A) (hp : L2H.PinOk outer H s pin) (e0 : Env0 P w K mg base A outer s H) (hb : BindsTo s fd args (ps.zip us)) (r : Vals vs us)
    (body : ∀ cdv s1, L2H.RoomH k (A.deeper (envOfC qual (defScope st) s.heap.objs.size f cdv)) → Inv (L2H.cxH CX0 P w K mg base N qual (defScope st) f cdv A outer s H E pin) [] (start N vs) H s1 →
      wpAny (model P w) (L2H.cxH CX0 P w K mg base N qual (defScope st) f cdv A outer s H E pin).A (execs (defBody st) (L2H.cxH CX0 P w K mg base N qual (defScope st) f cdv A outer s H E pin).env) (SP (L2H.cxH CX0 P w K mg base N qual (defScope st) f cdv A outer s H E pin) [] { nx := fun _ H' => Q .non H', rt := Q }) (L2H.cxH CX0 P w K mg base N qual (defScope st) f cdv A outer s H E pin).xe s1) :
    codeAny (model P w) A (.call (.ref f) args) (CR CX0 outer P w H s Q E) s := by
  obtain ⟨oc, od, kV, doc, pm, an, cdv, ct, osl, rfl, lk, hcd⟩ := F.ex
  have KX : K.In s.heap := e0.mod.kin.keeps fun b o e => (e0.bs b o e).1
  have lim : s.heap.NoLimit := e0.mod.nolimit.keeps fun b o e => (e0.bs b o e).1
  have kinds : ∀ y ∈ ps.zip us, (defScope st).names.lookup y.1 = some .local ∨ ((defScope st).names.lookup y.1 = some .cell ∧ ((cellsFrom (s.heap.objs.size + 1) (defScope st).names []).lookup y.1).isSome = true) := fun ⟨m, v⟩ hy => by
    rcases S.par m (List.of_mem_zip hy).1 with q | q
    · exact .inl q
    · exact .inr ⟨q, PySem.W.cellsFrom_some _ _ _ (.inl q)⟩
  refine codeAny_call_function hr.depth (KX _ _ lk) rfl S.co S.gen rfl (PySem.W.codeRec_of KX hcd) (hb _ _ _ _ ?_)
  refine wpAny_mono (wpAny_newFunctionEnv_cells (Q := fun env s1 => env = newEnv (defScope st) s.heap.objs.size mainGlobals (cellsFrom (s.heap.objs.size + 1) (defScope st).names []) (qual ++ ".<locals>.") (some f) cdv none builtinsNs ∧ InCallC s env.locals (bindL env.kindOf (ps.zip us) fun _ => none) env.cells (bindC env.kindOf (ps.zip us) fun _ => none) s1) S.kind kinds fun env he s1 q => ⟨he, q⟩) (fun env s1 ⟨he, q⟩ => ?_) fun _ _ z => z
  subst he
  refine ⟨lim.keeps q.toInCall.keep, codeAny_func ?_⟩
  have I : Inv (L2H.cxH CX0 P w K mg base N qual (defScope st) f cdv A outer s H E pin) [] (start N vs) H s1 := L2H.inv_startH S hp e0 hl r q
  refine wpAny_mono (body cdv s1 (hr.deeper _) I) (fun fl s' hs => ?_) fun e s' hs => hs
  have fin : ∀ {σ' : L2.St} {H' : Hp} {v : V} {u : Value}, Inv (L2H.cxH CX0 P w K mg base N qual (defScope st) f cdv A outer s H E pin) [] σ' H' s' → RelV v u → Q v H' → CE outer P w H s Q u s' :=
    fun {σ' H' v u} J rv z => ⟨v, H', J.os, J.bare, J.base, J.hok, rv, z⟩
  cases fl with
  | ret u =>
    obtain ⟨v, σ', H', J, rv, z⟩ := hs
    exact fin J rv z
  | next =>
    obtain ⟨σ', H', J, z⟩ := hs
    exact fin (v := V.non) (u := Value.none) J rfl z
  | brk =>
    obtain ⟨_, _, _, z⟩ := hs
    exact False.elim z
  | cont =>
    obtain ⟨_, _, _, z⟩ := hs
    exact False.elim z
/-- what a def promises while an exception is handled: nothing is raised -/
structure FnO (P : Program) (w : World) (K : PySem.W.Frag) (mg : Str → Option Value) (base : Heap) (k : Nat) (f : Addr) (fd : FuncData) (ps : List Str) (sp : Sp) : Prop where
  len : ∀ vs H Q E, sp vs H Q E → vs.length = ps.length
  run : ∀ (A : Around) (outer : List Env) (s : Shared) (H : Hp) (args : Args) (us : List Value) (vs : List V) (Q : VK) (pin : Addr × Obj), L2H.RoomH k A → L2H.PinOk outer H s pin → Env0 P w K mg base A outer s H → BindsTo s fd args (ps.zip us) → Vals vs us → sp vs H Q E0 →
    codeAny (model P w) A (.call (.ref f) args) (CR CX0 outer P w H s Q E0) s
/-- behind a body that raised: __exit__ is called, then what was raised goes on -/
theorem with_bad {X : Cx} {pins : List (Addr × Obj)} {D : Ends} {x fx : Addr} {fd : FuncData} {ps : List Str} {k : Nat} {sp : Sp} {Wout : WX} {u : Value} {s' : Shared} (ok : X.Ok) (hs : X.stack = X.env :: X.outer) (hf : X.env.frame = some X.env.locals) (hex : X.ex = []) (tk : Takes X Wout) (hr : Room k X.A)
    (F : FnO X.prog X.w X.K X.mg X.base k fx fd ps sp) (hb : Binds X.K fd ps [])
    (xx : XE (X.tr (X.pn ++ pins) (WithBad (model X.prog X.w) X.A (SP X pins D) X.xe X.env x fx)) (fun cls d σ H => ∃ C, cls = .ref C ∧ ∀ (a : Addr) (tv : V), (tv = .non ∨ ∃ T, tv = .ref T) → sp [.ref x, .ref C, .ref a, tv] H (fun v H' => v = .non ∧ Wout cls d σ H') E0) u s') :
    WithBad (model X.prog X.w) X.A (SP X pins D) X.xe X.env x fx u s' := by
  have hfr : X.A.frames = some (X.env :: X.outer) := by rw [ok.frames, hs]
  obtain ⟨a, G0, sI, pins', σ', H', cls, d, rfl, J', nb, up, sky, na, os, ag, C, rfl, hw⟩ := xx
  have J : Inv X pins σ' H' sI := J'.ofTry ok
  have sky' : Sky G0 (X.env :: X.outer) a (Zc (.ref C) d) X.env.locals s'.heap := by rw [← hs]; exact sky
  refine Sky.land Zc.steady hfr hf sky' fun h3 fl3 up3 => ?_
  have J3 : Inv X pins σ' H' { s' with heap := h3 } := J.landed nb fl3.1 (up.trans up3) os ag
  obtain ⟨k1, k2, k3, oe, vs, T, oT, ts, he3, hz, hd, hv1, hnT, hTe, hT, hdT, ht3⟩ := id fl3
  have nT : H' T = none := (J.inGround nb).gone hnT
  have off : ∀ (b : Addr) (o : Obj) (fv : Array Value), h3.get? b = some o → o.data = .fields fv → b ∉ frs (X.env :: X.outer) := fun b o fv e dd hm => by
    obtain ⟨_, o', e', hnf⟩ := k3.mem hm
    rw [e] at e'
    cases e'
    exact hnf _ dd
  have fa := off a oe vs he3 hd
  have fT := off T oT ts hT hdT
  have inF : X.env.locals ∈ frs (X.env :: X.outer) := List.mem_filterMap.mpr ⟨X.env, List.mem_cons_self, hf⟩
  have inO : ∀ b, b ∈ X.fs → b ∈ frs (X.env :: X.outer) := fun b hm => by
    obtain ⟨e, he, q⟩ := List.mem_filterMap.mp hm
    exact List.mem_filterMap.mpr ⟨e, List.mem_cons_of_mem _ he, q⟩
  have nLa : a ≠ X.env.locals := fun z => fa (z ▸ inF)
  have nLT : T ≠ X.env.locals := fun z => fT (z ▸ inF)
  -- the suite's context holds the exception and its traceback
  have S3 : Inv (X.suite a ((a, oe) :: (T, oT) :: (X.pn ++ pins))) [] σ' H' { s' with heap := h3 } := by
    refine ⟨J3.ok.suite _ _, J3.os, J3.bare, J3.base, J3.loc, J3.cell, J3.free, J3.freeC, fun p hp => ?_, J3.hok, J3.len⟩
    rw [List.append_nil] at hp
    rcases List.mem_cons.mp hp with z | hp
    · subst z
      exact ⟨he3, na, nLa, fun z => fa (inO _ z), fun v z => by rw [show oe.data = .cell v from z] at hd; cases hd⟩
    · rcases List.mem_cons.mp hp with z | hp
      · subst z
        exact ⟨hT, nT, nLT, fun z => fT (inO _ z), fun v z => by rw [show oT.data = .cell v from z] at hdT; cases hdT⟩
      · exact J3.pin p hp
  have sz : 3 < ts.size := (Array.getElem?_eq_some_iff.mp ht3).1
  obtain ⟨t1, ht1⟩ : ∃ t1, ts[1]? = some t1 := ⟨ts[1], Array.getElem?_eq_getElem (by omega)⟩
  have pin : L2H.PinOk X.stack H' { s' with heap := h3 } (a, oe) := ⟨he3, na, by rw [hs]; exact fa, fun v z => by rw [show oe.data = .cell v from z] at hd; cases hd⟩
  -- __exit__
  have go : ∀ (tv : V) (tu : Value), RelV tv tu → (tv = .non ∨ ∃ T, tv = .ref T) → wpAny (model X.prog X.w) X.A (withItem.marked (.ref a) (.call (.ref fx) ⟨[.ref x, .ref C, .ref a, tu], []⟩)) (fun r s6 => r = .none ∧ ∃ H6, Inv (X.suite a ((a, oe) :: (T, oT) :: (X.pn ++ pins))) [] σ' H6 s6 ∧ Wout (.ref C) d σ' H6) X.xe { s' with heap := h3 } := fun tv tu rt ht => by
    have h4 := hw a tv ht
    have hl := F.len _ _ _ _ h4
    have bt := hb { s' with heap := h3 } [.ref x, .ref C, .ref a, tu] J3.kIn (by rw [List.append_nil]; exact hl)
    rw [List.append_nil] at bt
    have run := F.run (X.suite a ((a, oe) :: (T, oT) :: (X.pn ++ pins))).A X.stack _ H' ⟨[.ref x, .ref C, .ref a, tu], []⟩ _ [.ref x, .ref C, .ref a, tv] _ (a, oe) ⟨hr.dp, hr.un⟩ pin S3.env0 bt (.cons rfl (.cons rfl (.cons rfl (.cons rt .nil)))) h4
    unfold withItem.marked
    refine wpAny_bind (wpAny_run (codeAny_mono run fun r s6 hq => ?_) (by intro z; cases z))
    match r, hq with
    | .error _, hq => exact False.elim hq
    | .ok (.ret u), hq =>
      obtain ⟨v, H6, I6, rv, ev, q⟩ := S3.after hq
      subst ev
      obtain rfl : u = Value.none := rv
      exact wpAny_pure ⟨rfl, H6, I6, q⟩
    | .ok .next, hq => exact False.elim hq
    | .ok .brk, hq => exact False.elim hq
    | .ok .cont, hq => exact False.elim hq
  -- behind it
  have back : ∀ r s6, (r = Value.none ∧ ∃ H6, Inv (X.suite a ((a, oe) :: (T, oT) :: (X.pn ++ pins))) [] σ' H6 s6 ∧ Wout (.ref C) d σ' H6) → r = .none ∧ wpAny (model X.prog X.w) X.A (PySem.passOn "with" (.ref a) X.env) (SP X pins D) X.xe s6 := fun r s6 ⟨er, H6, S6, q6⟩ => by
    refine ⟨er, ?_⟩
    have J6 : Inv X pins σ' H6 s6 := ⟨ok, S6.os, S6.bare, S6.base, S6.loc, S6.cell, S6.free, S6.freeC, fun p hp => S6.pin p (List.mem_append_left _ (List.mem_cons_of_mem _ (List.mem_cons_of_mem _ hp))), S6.hok, S6.len⟩
    have pa := S6.pin (a, oe) (List.mem_append_left _ List.mem_cons_self)
    have pT := S6.pin (T, oT) (List.mem_append_left _ (List.mem_cons_of_mem _ List.mem_cons_self))
    have far : ∀ b o, sI.heap.get? b = some o → b ≠ a ∧ b ≠ T := fun b o e => by
      by_cases hb : b ∈ frs X.stack
      · rw [hs] at hb
        exact ⟨fun z => fa (z ▸ hb), fun z => fT (z ▸ hb)⟩
      · have q := nb b o e hb
        exact ⟨fun z => (by rw [z, k2] at q; cases q), fun z => (by rw [z, hnT] at q; cases q)⟩
    have far0 : ∀ b o, X.s_0.heap.get? b = some o → b ≠ a ∧ b ≠ T := fun b o e => by
      obtain ⟨o', q⟩ := J.base.there b o e (by rw [hex]; simp)
      exact far b o' q
    obtain ⟨G, g1, g2⟩ := restrict s6.heap fun b => !(decide (b = a) || decide (b = T))
    have gIn : ∀ b o, G.get? b = some o → s6.heap.get? b = some o ∧ b ≠ a ∧ b ≠ T := fun b o e => by
      by_cases q : b = a ∨ b = T
      · rw [g2 b (by rcases q with q | q <;> simp [q])] at e
        cases e
      · rw [not_or] at q
        rw [g1 b (by simp [q.1, q.2])] at e
        exact ⟨e, q.1, q.2⟩
    have gOf : ∀ b o, b ≠ a → b ≠ T → s6.heap.get? b = some o → G.get? b = some o := fun b o n1 n2 e => by
      rw [g1 b (by simp [n1, n2])]
      exact e
    have I6 : Inv X pins σ' H6 { s6 with heap := G } := J6.less (fun b o e => (gIn b o e).1) gOf ⟨oe, vs, pa.1, hd⟩ ⟨oT, ts, pT.1, hdT⟩ pa.2.1 pT.2.1 far0 fun p hp => far p.1 p.2 (J.pin p hp).1
    have hid : ∀ b, (b = a ∨ b = T) → (PySem.W.hideAll G (frs X.stack)).get? b = none := fun b hb => by
      cases q : (PySem.W.hideAll G (frs X.stack)).get? b with
      | none => rfl
      | some o =>
        obtain ⟨_, n1, n2⟩ := gIn b o (PySem.W.of_hideAll _ q)
        exact (hb.elim n1 n2).elim
    have fl6 : HandSPX.FlyingZ (PySem.W.hideAll G (frs X.stack)) (X.env :: X.outer) a (Zc (.ref C) d) s6.heap := by
      refine ⟨fun b o e => (gIn b o (PySem.W.of_hideAll _ e)).1, hid a (.inl rfl), ?_, oe, vs, T, oT, ts, pa.1, hz, hd, hv1, hid T (.inr rfl), hTe, pT.1, hdT, ht3⟩
      rw [← hs]
      exact funFrames_none J6.stack fun b hb => PySem.W.hideAll_none _ hb
    unfold PySem.passOn
    refine wpAny_bind (wpAny_field pa.1 hd hv1 ?_)
    rw [if_neg (show ¬ ((Value.ref T == Value.none) = true) from by simp)]
    have on : wpAny (model X.prog X.w) X.A (setFlight (.ref a) X.env.frame) (fun _ s7 => wpAny (model X.prog X.w) X.A (throw (.ref a) : Sem Flow) (SP X pins D) X.xe s7) X.xe s6 := by
      rw [hf]
      refine HandSPX.setFlight_upZ fl6 fun h7 hh7 up7 => wpAny_throw (tk _ _ ⟨a, _, { s6 with heap := G }, pins, σ', H6, _, d, rfl, I6, fun b o e hb => PySem.W.hideAll_get _ e hb, (Heap.UpToSlots.of_keeps fun b o e => (gIn b o e).1).trans up7, .inr (.inr (by rw [← hs] at hh7; exact hh7)), pa.2.1, rfl, J6.bare, q6⟩)
    first
      | exact wpAny_bind (wpAny_pure (wpAny_bind on))
      | exact wpAny_bind on
  refine wpAny_bind (wpAny_typeOf_ref he3 ?_)
  rw [hz.1]
  refine wpAny_bind ?_
  unfold tracebackOf
  refine wpAny_bind (wpAny_field he3 hd hv1 ?_)
  dsimp only
  refine wpAny_bind (wpAny_field hT hdT ht1 ?_)
  by_cases hn : (t1 == Value.none) = true
  · rw [if_pos hn]
    exact wpAny_pure (wpAny_mono (go .non .none rfl (.inl rfl)) back fun _ _ z => z)
  · rw [if_neg hn]
    exact wpAny_pure (wpAny_mono (go (.ref T) (.ref T) rfl (.inr ⟨T, rfl⟩)) back fun _ _ z => z)
end PD

/-! with C(..): body, as a statement; over data and cells. -/
namespace PD
open PySem PySem.Spec PyProof.Rows L2
/-- the ends of a with's body: behind each, __exit__ is called -/
def exitD (sp : Sp) (t : Addr) (D : Ends) : Ends where
  nx := fun σ H => sp [.ref t, .non, .non, .non] H (fun _ H' => D.nx σ H') E0
  rt := fun v H => sp [.ref t, .non, .non, .non] H (fun _ H' => D.rt v H') E0
  bk := fun σ H => sp [.ref t, .non, .non, .non] H (fun _ H' => D.bk σ H') E0
  ct := fun σ H => sp [.ref t, .non, .non, .non] H (fun _ H' => D.ct σ H') E0
def exitW (sp : Sp) (t : Addr) (Wout : WX) : WX := fun cls d σ H => ∃ C, cls = .ref C ∧ ∀ (a : Addr) (tv : V), (tv = .non ∨ ∃ T, tv = .ref T) → sp [.ref t, .ref C, .ref a, tv] H (fun v H' => v = .non ∧ Wout cls d σ H') E0
def tWith (CT : Addr) (te : TE) (spE spX : Sp) (tb : WX → TS) (Wout : WX) : TS := fun D σ H => te σ H fun v H1 => ∃ t dx fs, v = .ref t ∧ H1 t = some (.ins CT dx fs) ∧ spE [.ref t] H1 (fun _ H2 => tb (exitW spX t Wout) (exitD spX t D) σ H2) E0
theorem ps_with {X : Cx} {CT fe fx : Addr} {fdE fdX : FuncData} {psE psX : List Str} {kE kX k : Nat} {spE spX : Sp} {ctx : Expr} {body : List Stmt} {pos : Pos} {te : TE} {tb : WX → TS} {Wout : WX} (hs : X.stack = X.env :: X.outer) (hf : X.env.frame = some X.env.locals) (hex : X.ex = []) (tk : Takes X Wout) (hr : Room k X.A) (hE : kE ≤ k) (hX : kX ≤ k)
    (mE : Meth X.K CT "__enter__" fe) (mX : Meth X.K CT "__exit__" fx) (FE : FnOk X.prog X.w X.K X.mg X.base CX0 kE fe fdE psE spE) (bE : Binds X.K fdE psE []) (FX : FnOk X.prog X.w X.K X.mg X.base CX0 kX fx fdX psX spX) (FH : FnO X.prog X.w X.K X.mg X.base kX fx fdX psX spX) (bX : Binds X.K fdX psX [])
    (he : PE X ctx te) (hb : ∀ (W : WX) (pn : List (Addr × Obj)) (xe : Value → Shared → Prop), Takes (X.tr pn xe) W → PassesOwn (model X.prog X.w) X.A X.env xe → PSs (X.tr pn xe) body (tb W)) : PS X (.With [⟨ctx, none⟩] body pos) (tWith CT te spE spX tb Wout) := by
  refine ⟨fun pins s σ H D I h => ?_⟩
  have ok := I.ok
  refine PySem.W.kw_exec0 (thn (he.run pins s σ H _ I h) fun u s1 ⟨v, H1, I1, r1, t, dx, fs, ev, ht, q1⟩ => ?_)
  subst ev
  obtain rfl : u = Value.ref t := r1
  obtain ⟨mA, J, _⟩ := ins_get I1.hok ht
  obtain ⟨od, J, _⟩ := J.look
  unfold PySem.W.KwIn
  refine with_core I1.kIn J mE.at_ mE.fn mX.at_ mX.fn ?_
  refine thn (run_fnS (E := fun _ => E0) (us := [.ref t]) (vs := [.ref t]) FE (hr.mono hE) bE (fun _ _ _ _ _ _ z => z.elim) I1 (.cons rfl .nil) q1) fun _ s2 ⟨w, H2, I2, r2, q2⟩ => ?_
  have tk2 : Takes (X.tr (X.pn ++ pins) (WithBad (model X.prog X.w) X.A (SP X pins D) X.xe X.env t fx)) (exitW spX t Wout) := fun u s' xx => with_bad ok hs hf hex tk (hr.mono hX) FH bX xx
  have cold : ∀ {s4 : Shared} {σ4 : L2.St} {H4 : Hp} {P : Hp → Prop} {Q : Shared → Prop}, Inv X pins σ4 H4 s4 → spX [.ref t, .non, .non, .non] H4 (fun _ H' => P H') E0 → (∀ s5 H5, Inv X pins σ4 H5 s5 → P H5 → Q s5) → wpAny (model X.prog X.w) X.A (call (.ref fx) [.ref t, .none, .none, .none]) (fun _ s5 => Q s5) X.xe s4 := fun I4 q4 k4 =>
    thn (run_fnS (E := fun _ => E0) (us := [.ref t, .none, .none, .none]) (vs := [.ref t, .non, .non, .non]) FX (hr.mono hX) bX (fun _ _ _ _ _ _ z => z.elim) I4 (.cons rfl (.cons rfl (.cons rfl (.cons rfl .nil)))) q4) fun _ s5 ⟨_, H5, I5, _, q5⟩ => k4 s5 H5 I5 q5
  refine wpAny_mono ((hb _ _ _ tk2 PassesOwn.looking).run [] s2 σ H2 (exitD spX t D) (I2.toTry _) q2) (fun f s4 q4 => ?_) fun _ _ z => z
  cases f with
  | next =>
    obtain ⟨σ4, H4, I4, z⟩ := q4
    exact cold (I4.ofTry ok) z fun s5 H5 I5 q5 => ⟨σ4, H5, I5, q5⟩
  | ret r =>
    obtain ⟨v4, σ4, H4, I4, r4, z⟩ := q4
    exact cold (I4.ofTry ok) z fun s5 H5 I5 q5 => ⟨v4, σ4, H5, I5, r4, q5⟩
  | brk =>
    obtain ⟨σ4, H4, I4, z⟩ := q4
    exact cold (I4.ofTry ok) z fun s5 H5 I5 q5 => ⟨σ4, H5, I5, q5⟩
  | cont =>
    obtain ⟨σ4, H4, I4, z⟩ := q4
    exact cold (I4.ofTry ok) z fun s5 H5 I5 q5 => ⟨σ4, H5, I5, q5⟩
end PD
namespace PD
open PySem PySem.Spec PyProof.Rows L2
section
variable {K : PySem.W.Frag} {S0 H0 B S H S' H' : Hp} {σ : L2.St} {ρ : Rho} {m m' : Mo} {v : V} {d : DV}
theorem Rm.back (r : Rm K S0 H0 v S H d m) (b : Bk m S H m' S' H') : Rm K S0 H0 v S' H' d m' := by
  have s : Sm K S0 H0 S [some v] S H [.val d] m := ⟨r.go, Ex.rf S, ⟨rfl, fun i u e a c => by
    cases i with
    | zero => cases a; cases c; exact ⟨v, rfl, r.rp⟩
    | succ i => simp at a, fun i j p q ds es _ a _ _ _ => by
    cases i with
    | zero => cases a
    | succ i => simp at a⟩, r.md⟩
  have s' := s.back b
  exact ⟨s'.g, s'.d, r.rp.up b.s⟩
/-- with C(..): body -/
theorem stw_with {CT : Addr} {te : TE} {tb : WX → TS} {AE AX : Mo → List DV → (DV → Mo → Prop) → Prop} {E : Pm} {Z : Zw} {R1 : DV → Mo → Prop} (h : EvR K te ρ m R1)
    (hb : ∀ d m1, R1 d m1 → ∃ t L1 gs R2, d = .adr t ∧ m1 = cM K L1 ∧ L1 t = some (.ins CT gs) ∧ AE m1 [.adr t] R2 ∧ ∀ d2 m2, R2 d2 m2 → StW K tb ρ m2 { nx := fun ρ' m3 => ∃ RX, AX m3 [.adr t, .non, .non, .non] RX ∧ ∀ d m4, RX d m4 → E.nx ρ' m4, rt := fun d m3 => ∃ RX, AX m3 [.adr t, .non, .non, .non] RX ∧ ∀ d' m4, RX d' m4 → E.rt d m4 }
      fun ρ' C gs m3 => ∀ d1 d2 d3, ∃ RX, AX m3 [.adr t, d1, d2, d3] RX ∧ ∀ d m4, RX d m4 → d = .non ∧ Z ρ' C gs m4) : StW K (fun W => tWith CT te (spM K AE) (spM K AX) tb W) ρ m E Z := fun S0 H0 B σ S H D W s o z =>
  h S0 H0 B σ S H s _ fun d m1 v S1 H1 hR s1 e1 r1 => by
    obtain ⟨t, L1, gs, R2, rfl, rfl, ht, hAE, body⟩ := hb d m1 hR
    cases r1
    obtain ⟨dx, fs, hp, _⟩ := s1.cel ht
    refine ⟨t, dx, fs, rfl, hp, S1, _, _, R2, s1.g.sub, fun q y => ⟨(s1.d.z q y).2.2.1, (s1.d.z q y).2.2.2⟩, s1.d.p, .cons (.adr t) .nil, hAE, fun d2 m2 v2 S2 H2 hR2 b2 _ => ?_⟩
    have s2 := s1.back b2
    refine body d2 m2 hR2 S0 H0 B σ S2 H2 (exitD (spM K AX) t D) (exitW (spM K AX) t W) s2 ⟨fun ρ' m3 σ' S3 H3 hA s3 => ?_, fun d m3 v S3 H3 hA r3 => ?_, fun _ _ _ _ _ y => y.elim, fun _ _ _ _ _ y => y.elim⟩ fun C gs cls dd ρ' m3 σ' S3 H3 hZ s3 x3 => ?_
    · obtain ⟨RX, hX, k⟩ := hA
      exact ⟨S3, m3, _, RX, s3.g.sub, fun q y => ⟨(s3.d.z q y).2.2.1, (s3.d.z q y).2.2.2⟩, s3.d.p, .cons (.adr t) (.cons .non (.cons .non (.cons .non .nil))), hX, fun d4 m4 _ S4 H4 hR4 b4 _ => o.nx ρ' m4 σ' S4 H4 (k d4 m4 hR4) (s3.back b4)⟩
    · obtain ⟨RX, hX, k⟩ := hA
      exact ⟨S3, m3, _, RX, r3.go.sub, fun q y => ⟨(r3.md.z q y).2.2.1, (r3.md.z q y).2.2.2⟩, r3.md.p, .cons (.adr t) (.cons .non (.cons .non (.cons .non .nil))), hX, fun d4 m4 _ S4 H4 hR4 b4 _ => o.rt d m4 v S4 H4 (k d4 m4 hR4) (r3.back b4)⟩
    · obtain ⟨x1, x2⟩ := id x3
      refine ⟨C, x1, fun a tv htv => ?_⟩
      obtain ⟨dv, rdv⟩ : ∃ dv, Rp K S3 tv dv := by
        rcases htv with rfl | ⟨T, rfl⟩
        · exact ⟨.non, .non⟩
        · exact ⟨.adr T, .adr T⟩
      obtain ⟨RX, hX, k⟩ := hZ (.adr C) (.adr a) dv
      refine ⟨S3, m3, _, RX, s3.g.sub, fun q y => ⟨(s3.d.z q y).2.2.1, (s3.d.z q y).2.2.2⟩, s3.d.p, .cons (.adr t) (.cons (.adr C) (.cons (.adr a) (.cons rdv .nil))), hX, fun d4 m4 v4 S4 H4 hR4 b4 r4 => ?_⟩
      obtain ⟨rfl, k4⟩ := k d4 m4 hR4
      cases r4
      refine ⟨rfl, z C gs cls dd ρ' m4 σ' S4 H4 k4 (s3.back b4) ⟨x1, ?_⟩⟩
      rcases x2 with x2 | ⟨dx', fs', y1, y2, y3⟩
      · exact .inl x2
      · exact .inr ⟨dx', fs', y1, b4.s _ _ y2, y3.up b4.s⟩
end
/-- a class for with: __enter__ and __exit__ known -/
structure Wt (g : Gb) (k : Nat) (CT : Addr) (AE AX : Mo → List DV → (DV → Mo → Prop) → Prop) : Prop where
  ex : ∃ fe fx fdE fdX psE psX kE kX, kE ≤ k ∧ kX ≤ k ∧ Meth g.K CT "__enter__" fe ∧ Meth g.K CT "__exit__" fx ∧ FnOk g.P g.w g.K g.mg g.base CX0 kE fe fdE psE (spM g.K AE) ∧ Binds g.K fdE psE [] ∧ FnOk g.P g.w g.K g.mg g.base CX0 kX fx fdX psX (spM g.K AX) ∧ FnO g.P g.w g.K g.mg g.base kX fx fdX psX (spM g.K AX) ∧ Binds g.K fdX psX []
section
variable (g : Gb) (l : Lc)
/-- where no comprehension is about -/
def USE (st : Stmt) : WX → TS := fun W D σ H => ∃ t, (∀ X, OfZ g l X W → X.ex = [] → PS X st t) ∧ t D σ H
def USsE (st : List Stmt) : WX → TS := fun W D σ H => ∃ t, (∀ X, OfZ g l X W → X.ex = [] → PSs X st t) ∧ t D σ H
def DSE (st : Stmt) (ρ : Rho) (m : Mo) (E : Pm) (Z : Zw) : Prop := StW g.K (USE g l st) ρ m E Z
def DSsE (sts : List Stmt) (ρ : Rho) (m : Mo) (E : Pm) (Z : Zw) : Prop := StW g.K (USsE g l sts) ρ m E Z
end
section
variable {g : Gb} {l : Lc} {ρ : Rho} {m : Mo} {k : Nat} {CT : Addr} {AE AX : Mo → List DV → (DV → Mo → Prop) → Prop} {ctx : Expr} {st : Stmt} {sts body : List Stmt} {pos : Pos} {E : Pm} {Z : Zw} {R1 : DV → Mo → Prop}
theorem USE.ps {X : Cx} {W : WX} (o : OfZ g l X W) (hx : X.ex = []) (st : Stmt) : PS X st (USE g l st W) := ⟨fun pins s σ H D I ⟨t, h, q⟩ => (h X o hx).run pins s σ H D I q⟩
theorem USsE.pss {X : Cx} {W : WX} (o : OfZ g l X W) (hx : X.ex = []) (st : List Stmt) : PSs X st (USsE g l st W) := ⟨fun pins s σ H D I ⟨t, h, q⟩ => (h X o hx).run pins s σ H D I q⟩
theorem DSE.by (t : WX → TS) (h : ∀ X W, OfZ g l X W → X.ex = [] → PS X st (t W)) (v : StW g.K t ρ m E Z) : DSE g l st ρ m E Z := fun S0 H0 B σ S H D W s k z => ⟨t W, fun X ok hx => h X W ok hx, v S0 H0 B σ S H D W s k z⟩
theorem DSsE.by (t : WX → TS) (h : ∀ X W, OfZ g l X W → X.ex = [] → PSs X sts (t W)) (v : StW g.K t ρ m E Z) : DSsE g l sts ρ m E Z := fun S0 H0 B σ S H D W s k z => ⟨t W, fun X ok hx => h X W ok hx, v S0 H0 B σ S H D W s k z⟩
theorem DSE.of (h : DSW g l st ρ m E Z) : DSE g l st ρ m E Z := .by _ (fun X W o _ => USZ.ps o st) h
theorem dsse_cons (h : DSE g l st ρ m { E with nx := fun ρ' m' => DSsE g l sts ρ' m' E Z } Z) : DSsE g l (st :: sts) ρ m E Z := .by _ (fun X W o hx => pss_cons (USE.ps o hx st) (USsE.pss o hx sts)) (stw_seq h)
theorem dsse_one (h : DSE g l st ρ m E Z) : DSsE g l [st] ρ m E Z := .by _ (fun X W o hx => pss_one (USE.ps o hx st)) h
theorem dse_with (M : Wt g k CT AE AX) (h : DER g l ctx ρ m R1) (hk : k ≤ l.k)
    (hb : ∀ d m1, R1 d m1 → ∃ t L1 gs R2, d = .adr t ∧ m1 = cM g.K L1 ∧ L1 t = some (.ins CT gs) ∧ AE m1 [.adr t] R2 ∧ ∀ d2 m2, R2 d2 m2 → DSsW g l body ρ m2 { nx := fun ρ' m3 => ∃ RX, AX m3 [.adr t, .non, .non, .non] RX ∧ ∀ d m4, RX d m4 → E.nx ρ' m4, rt := fun d m3 => ∃ RX, AX m3 [.adr t, .non, .non, .non] RX ∧ ∀ d' m4, RX d' m4 → E.rt d m4 }
      fun ρ' C gs m3 => ∀ d1 d2 d3, ∃ RX, AX m3 [.adr t, d1, d2, d3] RX ∧ ∀ d m4, RX d m4 → d = .non ∧ Z ρ' C gs m4) (hex : l.ex = none := by rfl) (hcl : l.cb = true := by rfl) : DSE g l (.With [⟨ctx, none⟩] body pos) ρ m E Z := by
  obtain ⟨fe, fx, fdE, fdX, psE, psX, kE, kX, h1, h2, mE, mX, FE, bE, FX, FH, bX⟩ := M.ex
  exact .by (fun W => tWith CT (UE g l ctx) (spM g.K AE) (spM g.K AX) (fun W' => USsZ g l body W') W) (fun X W oz hx => have o := oz.o; ps_with (k := k) oz.hs oz.hf hx oz.tk ((o.room hcl).mono hk) h1 h2 (by rw [o.K]; exact mE) (by rw [o.K]; exact mX) (by rw [o.prog, o.w, o.K, o.mg, o.base]; exact FE) (by rw [o.K]; exact bE) (by rw [o.prog, o.w, o.K, o.mg, o.base]; exact FX) (by rw [o.prog, o.w, o.K, o.mg, o.base]; exact FH) (by rw [o.K]; exact bX) (UE.pe o ctx)
    (fun W' pn xe tk' po' => USsZ.pss (oz.tr tk' po' hex) body)) (stw_with h hb)
end
section
variable {g : Gb} {x qual : Str} {st : Stmt} {f : Addr} {fd : FuncData} {N ps : List Str} {k : Nat}
theorem fn_okWe {A : Aw} (F : Fun g.K x qual st f fd) (S : FnScope N ps (defScope st)) (len : ∀ m ds R Z, A m ds R Z → ds.length = ps.length)
    (body : ∀ m ds R Z, A m ds R Z → DSsE g ⟨k, N, defScope st, fun _ => true, true, none⟩ (defBody st) (rho0 N ds) m { nx := fun _ m' => R .non m', rt := R } fun _ => Z) : FnOk g.P g.w g.K g.mg g.base (L2.CX g.P g.w) (k + 1) f fd ps (spW g.K A) := by
  refine F.okX S (fun vs H Q E ⟨S0, m, ds, R, Z, e, _, _, ra, hA, _⟩ => by rw [ra.len]; exact len m ds R Z hA) (fun cdv A' outer s H vs Q E hr ⟨S0, m, ds, R, Z, e, hz, hp, ra, hA, q, z⟩ => ?_)
  refine ⟨USsE g ⟨k, N, defScope st, fun _ => true, true, none⟩ (defBody st) (fun cls d _ H => E cls d H), USsE.pss ⟨⟨rfl, rfl, rfl, rfl, rfl, rfl, rfl, fun _ _ => rfl, fun _ => rfl, fun _ => hr, hr.un, fun _ => passes_of rfl, fun _ _ _ h => by cases h⟩, takes_of rfl rfl rfl rfl, rfl, rfl⟩ rfl _, ?_⟩
  refine body m ds R Z hA S0 (hidM m H) S0 _ S0 H _ _ ⟨by rw [mix_hid]; exact Go.rf e, Ex.rf _, en_start ra, ⟨fun q y => ⟨hidM_in y, (hz q y).1, (hz q y).1, (hz q y).2⟩, hp⟩⟩ ⟨fun ρ m' σ S1 H1 y s1 => ?_, fun d m' v S1 H1 y r1 => ?_, fun _ _ _ _ _ z => z.elim, fun _ _ _ _ _ z => z.elim⟩ fun C gs cls d ρ m' σ S1 H1 hz s1 x1 => z C gs cls d m' S1 H1 hz (bk_of s1.g s1.d) x1
  · exact q .non m' .non S1 H1 y (bk_of s1.g s1.d) .non
  · exact q d m' v S1 H1 y (bk_of r1.go r1.md) r1.rp
/-- a def that changes cells and raises nothing, while an exception is handled -/
theorem fn_okO {A : Mo → List DV → (DV → Mo → Prop) → Prop} (F : Fun g.K x qual st f fd) (S : FnScope N ps (defScope st)) (len : ∀ m ds R, A m ds R → ds.length = ps.length)
    (body : ∀ m ds R, A m ds R → DSsM g ⟨k, N, defScope st, fun _ => true, false, none⟩ (defBody st) (rho0 N ds) m { nx := fun _ m' => R .non m', rt := R }) : FnO g.P g.w g.K g.mg g.base (k + 1) f fd ps (spM g.K A) where
  len := fun vs H Q E ⟨S0, m, ds, R, e, _, _, ra, hA, _⟩ => by rw [ra.len]; exact len m ds R hA
  run := fun A' outer s H args us vs Q pin hr hp e0 hb rv ⟨S0, m, ds, R, e, hz, hpp, ra, hA, q⟩ => by
    refine fn_hot (N := N) (ps := ps) F S (by rw [ra.len]; exact len m ds R hA) hr hp e0 hb rv fun cdv s1 hr1 I1 => ?_
    have o : Of g ⟨k, N, defScope st, fun _ => true, false, none⟩ (L2H.cxH CX0 g.P g.w g.K g.mg g.base N qual (defScope st) f cdv A' outer s H E0 pin) := ⟨rfl, rfl, rfl, rfl, rfl, rfl, rfl, fun _ _ => rfl, fun h => (by cases h), fun h => (by cases h), hr1.un, fun h => (by cases h), fun _ _ _ h => by cases h⟩
    refine (USs.pss o (defBody st)).run [] s1 _ H { nx := fun _ H' => Q .non H', rt := Q } I1 ?_
    refine body m ds R hA S0 (hidM m H) S0 _ S0 H _ ⟨by rw [mix_hid]; exact Go.rf e, Ex.rf _, en_start ra, ⟨fun q y => ⟨hidM_in y, (hz q y).1, (hz q y).1, (hz q y).2⟩, hpp⟩⟩ ⟨fun ρ m' σ S1 H1 y s1 => ?_, fun d m' v S1 H1 y r1 => ?_, fun _ _ _ _ _ z => z.elim, fun _ _ _ _ _ z => z.elim⟩
    · exact q .non m' .non S1 H1 y (bk_of s1.g s1.d) .non
    · exact q d m' v S1 H1 y (bk_of r1.go r1.md) r1.rp
end
end PD

/-! A list comprehension whose first element raises, out of a call. -/
namespace PD
open PySem PySem.Spec PyProof.Rows L2
theorem funFrames_sub {h G G1 : Heap} (sub : ∀ b o, G1.get? b = some o → G.get? b = some o) : ∀ {l : List Env}, h.FunFrames G l → h.FunFrames G1 l
  | [], _ => True.intro
  | env :: rest, ⟨a, ⟨L, o, b1, b2, b3, b4⟩, c⟩ => ⟨a, ⟨L, o, b1, (by
      cases q : G1.get? L with
      | none => rfl
      | some u => rw [sub L u q] at b2; cases b2), b3, b4⟩, funFrames_sub sub c⟩
/-- the reading: the element is read once, and raises -/
def tLcX (wi : TI) (g : TG) (te : XK → TE) (vs : List Nat) (Wout : WX) : TE := fun σ H _ => wi σ H fun J H1 => ∀ D, H1 D = none → J.go 0 (upd H1 D (.lst [])) ∧ ∀ x H', J.yld 0 (upd H1 D (.lst [])) x H' → g x (wipe σ vs) H' fun σ2 H2 => te (fun cls d H'' => Wout cls d σ H'') σ2 H2 fun _ _ => False
/-- the context of such an element -/
def Cx.blkX (X : Cx) (s : Shared) (H : Hp) (scope : Scope) (ce : Env) (fp : List Addr) : Cx := { X.blk s H scope ce fp with xe := notedBy (model X.prog X.w) X.A ce (CompFails (model X.prog X.w) X.A X.xe ce) }
section
variable {X : Cx} {pins : List (Addr × Obj)} {σ : L2.St} {H : Hp} {s : Shared}
/-- a call in the element let an exception out: what the comprehension owes -/
theorem blk_out {Wout : WX} {scope : Scope} {ce : Env} {fp : List Addr} {σ6 : L2.St} {pins6 : List (Addr × Obj)} {H6 : Hp} {s6 s' : Shared} {e : Value} (I : Inv X pins σ H s) (hs : X.stack = X.env :: X.outer) (hf : X.env.frame = some X.env.locals) (tk : Takes X Wout) (hcl : ce.locals = s.heap.objs.size) (hcf : ce.frame = X.env.frame) (hfp : ∀ b ∈ fp, FpOk X pins H b ∧ b < s.heap.objs.size)
    (I6 : Inv (Cx.blkX X s H scope ce fp) pins6 σ6 H6 s6) (c : L2.CX X.prog X.w X.stack H6 s6 (fun cls d H'' => Wout cls d σ H'') e s') : notedBy (model X.prog X.w) X.A ce (CompFails (model X.prog X.w) X.A X.xe ce) e s' := by
  have ok := I.ok
  have hfr : X.A.frames = some (X.env :: X.outer) := by rw [ok.frames, hs]
  obtain ⟨a, G0, H7, cls, d, rfl, fl, hok, ub, na, os, ag, hE⟩ := c
  have nC6 : H6 ce.locals = none := I6.free
  obtain ⟨mC, hnC, _⟩ := I6.loc
  obtain ⟨oC, esC, epC, eC, dC, rC⟩ := id hnC
  have eC : s6.heap.get? ce.locals = some oC := eC
  have nfC : ∀ vs, oC.data ≠ .fields vs := fun vs q => by rw [dC] at q; cases q
  have offC : ce.locals ∉ frs X.stack := fun hm => by
    obtain ⟨_, o, q, _⟩ := I.stack.mem hm
    have := Heap.lt_size q
    rw [hcl] at this
    exact Nat.lt_irrefl _ this
  have C7 : H7 ce.locals = none := ub.free _ oC eC nC6
  have GC : G0.get? ce.locals = some oC := ub.keep _ oC eC nC6 offC
  have sC : s'.heap.get? ce.locals = some oC := fl.1 _ oC GC
  -- the ground without the block
  obtain ⟨G1, g1, g2⟩ := restrict G0 fun b => !decide (b = ce.locals)
  have in1 : ∀ b o, G1.get? b = some o → G0.get? b = some o ∧ b ≠ ce.locals := fun b o q => by
    by_cases w : b = ce.locals
    · rw [g2 b (by simp [w])] at q; cases q
    · rw [g1 b (by simp [w])] at q; exact ⟨q, w⟩
  have to1 : ∀ b o, b ≠ ce.locals → G0.get? b = some o → G1.get? b = some o := fun b o w q => by rw [g1 b (by simp [w])]; exact q
  -- the state at the call without the block
  obtain ⟨h6, k1, k2⟩ := restrict s6.heap fun b => !decide (b = ce.locals)
  have in6 : ∀ b o, h6.get? b = some o → s6.heap.get? b = some o ∧ b ≠ ce.locals := fun b o q => by
    by_cases w : b = ce.locals
    · rw [k2 b (by simp [w])] at q; cases q
    · rw [k1 b (by simp [w])] at q; exact ⟨q, w⟩
  have to6 : ∀ b o, b ≠ ce.locals → s6.heap.get? b = some o → h6.get? b = some o := fun b o w q => by rw [k1 b (by simp [w])]; exact q
  have old : ∀ b o, s.heap.get? b = some o → b ≠ ce.locals := fun b o q z => by
    have := Heap.lt_size q
    rw [z, hcl] at this
    exact Nat.lt_irrefl _ this
  have trk : ∀ {Hx : Hp}, Hx ce.locals = none → ∀ b u, Hx b = some u → b ≠ ce.locals := fun n b u q z => by rw [z, n] at q; cases q
  have less : ∀ {Hx : Hp} {hx hy : Heap}, Hx ce.locals = none → (∀ b o, b ≠ ce.locals → hx.get? b = some o → hy.get? b = some o) → HOk X.prog X.w Hx hx → HOk X.prog X.w Hx hy := fun {Hx hx hy} n t k b u q => (k b u q).stay (fun r o hr z => by
    rcases hr with y | y
    · subst y
      exact t _ o (trk n _ u q) z
    · exact t r o (trk n r _ y) z) (fun _ z => z) fun _ _ z => z
  have u6 : Un (frs X.stack) fp H H6 s.heap s6.heap := I6.base
  have I7 : Inv X pins σ H6 { s6 with heap := h6 } := I.call' (ch := fp) (s' := { s6 with heap := h6 }) I6.os
    ⟨fun b o q n w x => to6 b o (old b o q) (u6.keep b o q n w x), fun b o q n w x => (let ⟨sl, y⟩ := u6.slot b o q n w x; ⟨sl, to6 b _ (old b o q) y⟩), u6.free, fun b o q x => (let ⟨o', y⟩ := u6.there b o q x; ⟨o', to6 b _ (old b o q) y⟩), u6.tups, u6.frzs, u6.tbls⟩
    (less nC6 to6 I6.hok) I6.bare fun b hb => ⟨(hfp b hb).1.2.2.2.1, (hfp b hb).1.2.1, (hfp b hb).1.2.2.2.2.1, (hfp b hb).1.2.2.2.2.2⟩
  -- noted
  have fl' : HandSPX.FlyingZ G0 (X.env :: X.outer) a (Zc cls d) s'.heap := by rw [← hs]; exact fl
  show wpAny _ _ (noteFrame (.ref a) ce) _ _ s'
  rw [noteFrame_env _ hcf]
  refine HandSPX.looks_onZ Zc.steady hfr hf fl' fun h1 hh1 up1 => ?_
  obtain ⟨q1, q2, q3, oe, vs, T, oT, ts, he, hz, hd, hv1, hnT, hTe, hT, hdT, ht3⟩ := id hh1
  have hn1 : h1.Ns ce.locals mC := (show s'.heap.Ns ce.locals mC from ⟨oC, esC, epC, sC, dC, rC⟩).upToSlots up1
  refine ⟨mC, hn1, fun h2 m2 hn2 sb => ?_⟩
  have noC : ∀ b o fv, h1.get? b = some o → o.data = .fields fv → b ≠ ce.locals := fun b o fv q w z => by
    obtain ⟨o', e1, e2, q', w', _⟩ := hn1
    rw [z, q'] at q
    cases q
    rw [w'] at w
    cases w
  have na1 : a ≠ ce.locals := noC a oe vs he hd
  have nT1 : T ≠ ce.locals := noC T oT ts hT hdT
  have st2 : G1.StaysIn h2 := fun b o q => by rw [sb.2 b (in1 b o q).2]; exact q1 b o (in1 b o q).1
  have ff2 : h2.FunFrames G1 (X.env :: X.outer) := funFrames_sub (fun b o q => (in1 b o q).1) (Heap.FunFrames.sameBut sb hn2 q3)
  have nGa : G1.get? a = none := by
    cases y : G1.get? a with
    | none => rfl
    | some o => rw [(in1 a o y).1] at q2; cases q2
  have nGT : G1.get? T = none := by
    cases y : G1.get? T with
    | none => rfl
    | some o => rw [(in1 T o y).1] at hnT; cases hnT
  have tr2 : HandSPX.TracedZ h2 G1 a (Zc cls d) (rawInt X.env.locals) := ⟨oe, vs, T, oT, ts, by rw [sb.2 a na1]; exact he, hz, hd, hv1, nGT, hTe, by rw [sb.2 T nT1]; exact hT, hdT, ht3⟩
  unfold PySem.passOn
  refine wpAny_bind (wpAny_field (by rw [sb.2 a na1]; exact he) hd hv1 ?_)
  rw [if_neg (show ¬ ((Value.ref T == Value.none) = true) from by simp)]
  have go : wpAny (model X.prog X.w) X.A (setFlight (.ref a) ce.frame) (fun _ s7 => wpAny (model X.prog X.w) X.A (throw (.ref a) : Sem Value) (fun _ _ => False) X.xe s7) X.xe { s' with heap := h2 } := by
    rw [hcf, hf]
    refine HandSPX.setFlight_anyZ (fr := some X.env.locals) st2 ff2 tr2 fun h3 z1 z2 z3 z4 => wpAny_throw (tk _ _ ?_)
    -- the state without the exception and the block
    obtain ⟨G, m1, m2'⟩ := restrict s'.heap fun b => (G1.get? b).isSome || decide (b ∈ frs X.stack)
    have inG : ∀ b o, G.get? b = some o → s'.heap.get? b = some o ∧ ((G1.get? b).isSome = true ∨ b ∈ frs X.stack) := fun b o q => by
      cases w : ((G1.get? b).isSome || decide (b ∈ frs X.stack)) with
      | false => rw [m2' b w] at q; cases q
      | true => rw [m1 b w] at q; exact ⟨q, by simpa [Bool.or_eq_true] using w⟩
    have toG : ∀ b o, G1.get? b = some o → G.get? b = some o := fun b o q => by
      rw [m1 b (by simp [q])]
      exact fl.1 b o (in1 b o q).1
    have frG : ∀ b, b ∈ frs X.stack → G.get? b = s'.heap.get? b := fun b hb => m1 b (by simp [hb])
    have nGC : ∀ b o, G.get? b = some o → b ≠ ce.locals := fun b o q z => by
      rcases (inG b o q).2 with y | y
      · obtain ⟨u, hu⟩ := Option.isSome_iff_exists.mp y
        exact (in1 b u hu).2 z
      · exact offC (z ▸ y)
    have J : Inv X pins σ H7 { ({ s6 with heap := h6 } : Shared) with heap := G, gens := s'.gens, drawn := s'.drawn, toks := s'.toks } := I7.call (ch := [])
      ⟨fun b o q n w _ => toG b o (to1 b o (in6 b o q).2 (ub.keep b o (in6 b o q).1 n w)), fun b o q n w _ => (let ⟨sl, y⟩ := ub.slot b o (in6 b o q).1 w; ⟨sl, by rw [frG b w]; exact y⟩), fun b o q n _ => ub.free b o (in6 b o q).1 n, fun b o q _ => (by
        by_cases w : b ∈ frs X.stack
        · obtain ⟨sl, y⟩ := ub.slot b o (in6 b o q).1 w
          exact ⟨_, by rw [frG b w]; exact y⟩
        · obtain ⟨o', y⟩ := ub.there b o (in6 b o q).1 w
          exact ⟨o', toG b o' (to1 b o' (in6 b o q).2 y)⟩), ub.tups, ub.frzs, ub.tbls⟩ ((less C7 to1 hok).kept toG) ag fun _ z => (nomatch z)
    refine ⟨a, G1, _, pins, σ, H7, cls, d, rfl, J, fun b o q w => ?_, fun b o q nf => ?_, .inr (.inr ⟨z1, nGa, by rw [hs]; exact z2, z3⟩), na, os, ag, hE⟩
    · rcases (inG b o q).2 with y | y
      · obtain ⟨u, hu⟩ := Option.isSome_iff_exists.mp y
        have e2 := fl.1 b u (in1 b u hu).1
        rw [(inG b o q).1] at e2
        cases e2
        exact hu
      · exact absurd y w
    · obtain ⟨sl, y⟩ := up1 b o (inG b o q).1 nf
      exact z4 b { o with slots := sl } (by show h2.get? b = _; rw [sb.2 b (nGC b o q)]; exact y) nf
  first
    | exact wpAny_bind (wpAny_pure (wpAny_bind go))
    | exact wpAny_bind go
end
end PD
namespace PD
open PySem PySem.Spec PyProof.Rows L2
section
variable {X : Cx} {Wout : WX} {elt tg iter : Expr} {scope : Scope} {own : List (Str × Nat)} {pos : Pos} {wi : TI} {g : TG} {te : XK → TE}
theorem pe_lcX (hs : X.stack = X.env :: X.outer) (hf : X.env.frame = some X.env.locals) (tk : Takes X Wout) (hc : X.calm = true) (hN : X.N.Nodup) (hi : PI X tg iter wi) (ok : BlkOk X.N X.env.scope scope own)
    (hg : ∀ (s : Shared) (H : Hp) (C : Addr) (cl : List (Str × Addr)) (fp : List Addr), PG (X.blk s H scope (compEnvC scope cl C X.env) fp) tg g)
    (he : ∀ (s : Shared) (H : Hp) (C : Addr) (cl : List (Str × Addr)) (fp : List Addr) (E : XK), (∀ σ, PassesAt (L2.CX X.prog X.w) (Cx.blkX X s H scope (compEnvC scope cl C X.env) fp) σ E) → PE (Cx.blkX X s H scope (compEnvC scope cl C X.env) fp) elt (te E))
    (hfold : ∀ x, foldedSetIterable iter X.env x = pure x := by intro _; rfl) : PE X (.ListComp elt [⟨tg, iter, [], 0⟩] scope pos) (tLcX wi g te (own.map (·.2)) Wout) := by
  refine ⟨fun pins s σ H Q I h => ?_⟩
  rw [eval_ListComp]
  have hfree : ∀ y ∈ scope.names, y.2 = .free → ∃ c, X.env.cells.lookup y.1 = some c := fun y hy e => (ok.free y hy e).elim (fun k => I.ok.has _ (.inl k)) fun k => I.ok.has _ (.inr k)
  refine comprehension_at (use := none) rfl hfold (closure_ok hfree) ok.kind (fun y hy e => by rw [ok.uniq y hy, e]) (thn (hi.run pins s σ H _ I h) fun xv s1 hx => thn hx fun itv s2 h2 => ?_)
  obtain ⟨it, fp, tn, J, H2, rfl, I2, T, st2, f2, q⟩ := h2
  refine wpAny_newObj_type (newEnv_comp ?_) (by show 0 ≤ sizeLine; decide)
  generalize hD : s2.heap.objs.size = D
  have hDn : H2 D = none := I2.hok.fresh (Nat.le_of_eq hD)
  obtain ⟨go, step⟩ := q D hDn
  generalize hs3 : ({ s2 with heap := s2.heap.push { cls := .type "list", data := .seq ([] : List Value).toArray } } : Shared) = s3
  have I3 : Inv X pins σ (upd H2 D (.lst [])) s3 := by
    subst hs3
    refine I2.laid (t' := s2.toks) (fun b o e => Heap.get?_push_of_some _ e) (Nat.le_of_eq hD) ⟨Nat.zero_le _, [], 0, .nil, ?_⟩
    subst hD
    exact Heap.get?_push_size _ rfl
  have sz3 : s3.heap.objs.size = s2.heap.objs.size + 1 := by subst hs3; exact Heap.size_push _ _
  have up3 : ∀ b o, s2.heap.get? b = some o → s3.heap.get? b = some o := fun b o e => by subst hs3; exact Heap.get?_push_of_some _ e
  have below : ∀ b ∈ fp, b < s2.heap.objs.size := fun b hb => (let ⟨o, e, _⟩ := T.obj _ _ st2 b hb; Heap.lt_size e)
  have f3 : ∀ b ∈ fp, FpOk X pins (upd H2 D (.lst [])) b ∧ b < s3.heap.objs.size := fun b hb => by
    have hlt := below b hb
    exact ⟨⟨by rw [upd_ne (by rw [← hD]; exact Nat.ne_of_lt hlt)]; exact (f2 b hb).1, (f2 b hb).2⟩, by rw [sz3]; exact Nat.lt_succ_of_lt hlt⟩
  have st3 : tn 0 s3.heap := T.keep _ _ _ st2 fun b _ o e => up3 b o e
  have I4 := block_start I3 ok hN f3
  have pg := hg s3 (upd H2 D (.lst [])) s3.heap.objs.size (cellsFrom (s3.heap.objs.size + 1) scope.names (cloFrom X.env.cells scope.names [])) fp
  have pe := he s3 (upd H2 D (.lst [])) s3.heap.objs.size (cellsFrom (s3.heap.objs.size + 1) scope.names (cloFrom X.env.cells scope.names [])) fp (fun cls d H'' => Wout cls d σ H'') (fun σ6 pins6 H6 s6 e s' J6 c => blk_out I3 hs hf tk rfl rfl f3 J6 c)
  show codeAny _ _ (.compStart _ 0 (.ref it) (.ref D) (compEnvC scope (cellsFrom (s3.heap.objs.size + 1) scope.names (cloFrom X.env.cells scope.names [])) s3.heap.objs.size X.env)) (compEnds (model X.prog X.w) X.A X.xe none _ (.ref D) (compEnvC scope (cellsFrom (s3.heap.objs.size + 1) scope.names (cloFrom X.env.cells scope.names [])) s3.heap.objs.size X.env)) _
  have nfp : ∀ b ∈ fp, (upd H2 D (.lst [])) b = none := fun b hb => (f3 b hb).1.1
  generalize hce : compEnvC scope (cellsFrom (s3.heap.objs.size + 1) scope.names (cloFrom X.env.cells scope.names [])) s3.heap.objs.size X.env = ce at I4 pg pe ⊢
  generalize hH3 : upd H2 D (.lst []) = H3 at I3 I4 pg pe go step nfp f3
  generalize hs4 : ({ s3 with heap := pushCells (s3.heap.push { cls := .type "dict", data := .dict #[] }) scope.names } : Shared) = s4 at I4 ⊢
  have st4 : tn 0 s4.heap := T.keep _ _ _ st3 fun b _ o e => by rw [← hs4]; exact pushCells_keeps _ _ _ _ (Heap.get?_push_of_some _ e)
  have stat : ∀ {σ' : L2.St} {H' : Hp} {s' : Shared}, Inv (X.blk s3 H3 scope ce fp) [] σ' H' s' → (∀ b ∈ fp, H' b = none) → ∀ b ∈ fp, FpOk (X.blk s3 H3 scope ce fp) [] H' b := fun {σ' H' s'} J' hn b hb =>
    ⟨hn b hb, (J'.ok.exf b hb).1, J'.ok.exfs b hb, .inl hb, fun x c e => (J'.ok.exf b hb).2 x c e, fun p hp => absurd (show p ∈ ([] : List (Addr × Obj)) ++ [] from hp) (by simp)⟩
  have loop : codeAny (model X.prog X.w) X.A (.compLoop (.ListComp elt [⟨tg, iter, [], 0⟩] scope pos) 0 (.ref it) (.ref D) ce) (compEnds (model X.prog X.w) X.A X.xe none (EP X pins σ Q) (.ref D) ce) s4 := by
    refine compLoop_any (fun n s' => n = 0 ∧ s' = s4) (fun n s5 ⟨_, e5⟩ => ?_) 0 ⟨rfl, rfl⟩
    subst e5
    refine thnF (T.item (X.blk s3 H3 scope ce fp) rfl rfl rfl hc 0 [] s5 _ H3 (fun _ _ => False) I4 (stat I4 nfp) st4 go) fun r s6 ⟨u, hr, h6⟩ => ?_
    subst hr
    refine thnF h6 fun _ s7 ⟨x, H7, I7, r7, y7, st7, n7⟩ => ?_
    refine thnF (pg.run _ s7 _ H7 x u _ (I7.pinned (stat I7 n7) (T.obj _ _ st7)) r7 (step x H7 y7)) fun _ s8 ⟨σ8, H8, I8, q8⟩ => ?_
    refine wpAny_pure ?_
    rw [if_pos rfl]
    have I9 : Inv (Cx.blkX X s3 H3 scope ce fp) ([] ++ pinsAt fp s7.heap) σ8 H8 s8 := I8.wish _
    exact wpAny_mono (pe.run _ s8 σ8 H8 _ I9 q8) (fun z s10 ⟨_, _, _, _, f⟩ => f.elim) fun _ _ z => z
  exact codeAny_compStart_list loop (T.self X.A 0 _ _ _ st4 loop)
end
end PD

/-! Comprehensions whose elements change cells, one after the other; one whose first element raises. -/
namespace PD
open PySem PySem.Spec PyProof.Rows L2
section
variable {K : PySem.W.Frag} {S0 H0 B S H S' H' H9 : Hp} {σ : L2.St} {ρ : Rho} {m m' : Mo} {te t0 : TE} {ta : TA} {ds : List DV} {D : Addr} {o : HO}
theorem En.anyT (n : En K H0 S H σ ρ) (h : noOwn ρ = true) (e : Ex S S') : En K H9 S' H' σ ρ where
  len := n.len
  at_ := fun i v u a b => by
    have k := n.at_ i v u a b
    have z := noOwn_get h b
    cases u with
    | un => trivial
    | exo _ _ _ => obtain ⟨a1, fs, b1, c1⟩ := k; exact ⟨a1, fs, e _ _ b1, c1.up e⟩
    | val d => obtain ⟨w, x, r⟩ := k; exact ⟨w, x, r.up e⟩
    | ownD _ => cases z
  sep := n.sep
theorem Sm.putT (s : Sm K S0 H0 B σ S H ρ m) (hn : noOwn ρ = true) (nS : S D = none) (nd : ¬ m.dom D) (h0 : H0 D = none) : Sm K S0 H0 B σ S (upd H D o) ρ m := by
  have ne : ∀ b, m.dom b → b ≠ D := fun b y z => nd (z ▸ y)
  have e : mix m H0 (upd H D o) = mix m H0 H := funext fun b => by
    by_cases y : m.dom b
    · rw [mix_in y, mix_in y, upd_ne (ne b y)]
    · rw [mix_out y, mix_out y]
  refine ⟨by rw [e]; exact s.g.chg nS (by rw [mix_out nd]; exact h0), s.b, s.n.anyT hn (Ex.rf _), ⟨fun b y => ?_, m.stb S H _ _ (Ex.rf _) (fun b y => upd_ne (ne b y)) s.d.p⟩⟩
  obtain ⟨a1, a2, a3, a4⟩ := s.d.z b y
  exact ⟨a1, a2, a3, by rw [upd_ne (ne b y)]; exact a4⟩
theorem Sm.stillT (s : Sm K S0 H0 B σ S H ρ m) (hn : noOwn ρ = true) (nS : S D = none) (nd : ¬ m.dom D) (h0 : H0 D = none) (h : H D = some o) : Sm K S0 H0 B σ (upd S D o) H ρ m := by
  refine ⟨s.g.frz nS (by rw [mix_out nd]; exact h0) h, s.b.tr (Ex.new nS), s.n.anyT hn (Ex.new nS), ⟨fun b y => ?_, m.stb S H _ _ (Ex.new nS) (fun b y => rfl) s.d.p⟩⟩
  obtain ⟨a1, a2, a3, a4⟩ := s.d.z b y
  exact ⟨a1, a2, by rw [upd_ne (show b ≠ D from fun z => nd (z ▸ y))]; exact a3, a4⟩
/-- a state inside a block: the slots are others, the cells the same -/
theorem Sm.inner {σ2 : L2.St} {ρ2 : Rho} {S4 H4 H8 : Hp} (s4 : Sm K S0 H0 B σ S4 H4 ρ m) (n2 : En K H8 S4 H4 σ2 ρ2) (hn : noOwn ρ2 = true) : Sm K S4 (hidM m H4) S4 σ2 S4 H4 ρ2 m :=
  ⟨by rw [mix_hid]; exact Go.rf s4.g.sub, Ex.rf _, n2.anyT hn (Ex.rf _), ⟨fun b y => ⟨hidM_in y, (s4.d.z b y).2.2.1, (s4.d.z b y).2.2.1, (s4.d.z b y).2.2.2⟩, s4.d.p⟩⟩
/-- [f i for d_i in ds], the cells are mm i ahead of the element i; the list that grows is at no cell -/
theorem evu_lcT {wi : TI} {g : TG} {tt : TT} {is vs : List Nat} (hi : IvD K wi ρ ds) (hlen : ds.length ≤ 100000) (his : ∀ j ∈ is, j ∈ vs) (hno : noOwn ρ = true) (mm : Nat → Cels) (ρ1 : DV → Rho) (hno1 : ∀ d ∈ ds, noOwn (ρ1 d) = true) (f : Nat → DV)
    (hg : ∀ d ∈ ds, TgD K g is d (wipeR ρ vs) (ρ1 d)) (ht : ∀ d ∈ ds, EvB K tt (ρ1 d) true) (hdm : ∀ i a, i < ds.length → mm i a = none → mm (i + 1) a = none) (he : ∀ i d, ds[i]? = some d → EvU K te (ρ1 d) (cM K (mm i)) (f i) (cM K (mm (i + 1)))) : EvU K (tLc wi g tt te vs) ρ (cM K (mm 0)) (.lst ((List.range ds.length).map f)) (cM K (mm ds.length)) := fun S0 H0 B σ S H s Q q =>
  hi _ σ S H s.g.sub s.n _ fun J S1 H1 g1 w1 => fun D hD => by
    have s1 := s.go g1
    have nd0 : mm 0 D = none := Classical.byContradiction fun y => (s1.d.z D y).2.2.2 hD
    have nd : ∀ i, i ≤ ds.length → mm i D = none := fun i => by
      induction i with
      | zero => exact fun _ => nd0
      | succ i ih => exact fun h => hdm i D (by omega) (ih (by omega))
    have ndm : ∀ i, i ≤ ds.length → ¬ (cM K (mm i)).dom D := fun i h y => y (nd i h)
    have h0 : H0 D = none := by
      have := s1.g.h.free hD
      rwa [mix_out (ndm 0 (Nat.zero_le _))] at this
    refine ⟨fun i k H2 => k = ds.length - i ∧ i ≤ ds.length ∧ ∃ S2 acc, Sm K S0 H0 B σ S2 H2 ρ (cM K (mm i)) ∧ Ex S1 S2 ∧ S2 D = none ∧ H2 D = some (.lst acc) ∧ RpA K S2 acc ((List.range i).map f) ∧ acc.length ≤ i,
      ⟨_, rfl, Nat.zero_le _, S1, [], s1.go (Go.side g1.sub (Ex.new hD)), Ex.rf _, g1.sub.free hD, upd_same, .nil, Nat.le_refl _⟩, ?_⟩
    rintro i k H2 ⟨rfl, hile, S2, acc, s2, x2, nD, hD2, ra, hacc⟩
    by_cases hlt : i < ds.length
    · have hdi : ds[i]? = some ds[i] := List.getElem?_eq_getElem hlt
      have hmem : ds[i] ∈ ds := List.getElem_mem hlt
      refine .inr ⟨w1.go i H2 (x2.tr s2.g.sub) hlt, fun H' => ∃ S3 acc', Sm K S0 H0 B σ S3 H' ρ (cM K (mm (i + 1))) ∧ Ex S1 S3 ∧ S3 D = none ∧ H' D = some (.lst acc') ∧ RpA K S3 acc' ((List.range (i + 1)).map f) ∧ acc'.length ≤ i + 1,
        fun H' ⟨S3, acc', a, b, c, d, e, l⟩ => ⟨ds.length - (i + 1), by omega, rfl, hlt, S3, acc', a, b, c, d, e, l⟩, fun x H' y => ?_⟩
      obtain ⟨S3, g3, rx⟩ := w1.yld i H2 x H' y _ hdi S2 x2 s2.g.sub
      have s3 := s2.go g3
      refine hg _ hmem _ (wipe σ vs) S3 H' x g3.sub (s3.n.wipe vs) rx _ fun σ2 n2 l2 f2 => ⟨wipe_eq l2 f2 his, ?_⟩
      refine ht _ hmem _ σ2 S3 H' g3.sub n2 _ fun S4 H4 g4 => ?_
      have s4 := s3.go g4
      have hD4 : H4 D = some (.lst acc) := g4.h _ _ (g3.h _ _ hD2)
      have nD4 : S4 D = none := (g3.tr g4).off nD hD2
      rw [if_pos rfl]
      refine he i _ hdi _ _ _ σ2 S4 H4 (s4.inner (n2.go g4) (hno1 _ hmem)) _ fun y S5 H5 sF e5 r5 => ?_
      have bk := bk_of sF.g sF.d
      have s5 := s4.back bk
      have o1 := ndm (i + 1) hlt
      have hD5 : H5 D = some (.lst acc) := bk.h D _ (ndm i hile) hD4
      have nD5 : S5 D = none := by
        cases z : S5 D with
        | none => rfl
        | some u => exact absurd (bk.new D u z nD4) (fun w => w.elim (ndm i hile) fun w => by rw [hD4] at w; cases w)
      refine ⟨acc, hD5, Nat.lt_of_le_of_lt (Nat.le_trans hacc (Nat.le_of_lt hlt)) (Nat.lt_of_le_of_lt hlen (by decide)), S5, acc ++ [y], s5.putT hno nD5 o1 h0, ((x2.tr g3.s).tr g4.s).tr e5, nD5, upd_same, ?_, ?_⟩
      · rw [List.range_succ, List.map_append]
        exact (((ra.up g3.s).up g4.s).up e5).snoc r5
      · rw [List.length_append, List.length_singleton]
        omega
    · have e : i = ds.length := by omega
      subst e
      exact .inl ⟨w1.stop H2 (x2.tr s2.g.sub), q _ (upd S2 D (.lst acc)) H2 (s2.stillT hno nD (ndm _ (Nat.le_refl _)) h0 hD2) ((g1.s.tr x2).tr (Ex.new nD)) (.lst (.inl upd_same) (ra.up (Ex.new nD)))⟩
/-- an element that raises -/
def EvXE (K : PySem.W.Frag) (te : XK → TE) (ρ : Rho) (m : Mo) (F : Zf) : Prop := ∀ S0 H0 B σ S H E, Sm K S0 H0 B σ S H ρ m → (∀ C gs cls dd m' S' H', F C gs m' → Sm K S0 H0 B σ S' H' ρ m' → ExD K S' C gs cls dd → E cls dd H') → te E σ H (fun _ _ => False)
theorem evxe_meth {A : Aw} {n : Str} {p CS : Addr} {F : Zf} (hI : InsAt m p CS n) (h : EvU K t0 ρ m (.adr p) m) (ha : EvAU K ta ρ m ds m) (hA : A m (.adr p :: ds) (fun _ _ => False) F) : EvXE K (fun E => tMethZ CS n (spW K A) (fun _ => E) t0 ta) ρ m F := fun S0 H0 B σ S H E s z =>
  h S0 H0 B σ S H s _ fun v S1 H1 s1 e1 r1 => by
    cases r1
    obtain ⟨dx, fs, hp, hl⟩ := hI S1 H1 s1.d.p
    refine ⟨p, dx, fs, rfl, hp, hl, ha S0 H0 B σ S1 H1 s1 _ fun vs S2 H2 s2 e2 r2 => ?_⟩
    exact ⟨S2, m, _, _, F, s2.g.sub, fun q y => ⟨(s2.d.z q y).2.2.1, (s2.d.z q y).2.2.2⟩, s2.d.p, .cons (.adr p) r2, hA, fun d m' v S3 H3 hR b r3 => hR.elim, fun C gs cls d m' S3 H3 y b x3 => z C gs cls d m' S3 H3 y (s2.back b) x3⟩
theorem evw_lcX {wi : TI} {g : TG} {te : XK → TE} {is vs : List Nat} {d0 : DV} {R : DV → Mo → Prop} {Z : Zw} {F : Zf} {ρ1 : Rho} (hi : IvD K wi ρ (d0 :: ds)) (hno : noOwn ρ = true) (hno1 : noOwn ρ1 = true) (hg : TgD K g is d0 (wipeR ρ vs) ρ1) (he : EvXE K te ρ1 m F) (hz : ∀ C gs m', F C gs m' → Z ρ C gs m') : EvW K (fun W => tLcX wi g te vs W) ρ m R Z := fun S0 H0 B σ S H W s z Q q =>
  hi _ σ S H s.g.sub s.n _ fun J S1 H1 g1 w1 => fun D hD => by
    have s1 := s.go g1
    have s2 := s1.go (Go.side g1.sub (Ex.new (o := .lst []) hD))
    refine ⟨w1.go 0 _ s2.g.sub (by show 0 < (d0 :: ds).length; simp), fun x H' y => ?_⟩
    obtain ⟨S3, g3, rx⟩ := w1.yld 0 _ x H' y d0 rfl S1 (Ex.rf _) s2.g.sub
    have s3 := s2.go g3
    refine hg _ (wipe σ vs) S3 H' x g3.sub (s3.n.wipe vs) rx _ fun σ2 n2 l2 f2 => ?_
    refine he _ _ _ σ2 S3 H' _ (s3.inner n2 hno1) fun C gs cls dd m' S5 H5 hF sF x5 => ?_
    exact z C gs cls dd ρ m' σ S5 H5 (hz C gs m' hF) (s3.back (bk_of sF.g sF.d)) x5
end
section
variable {g : Gb} {l : Lc} {ρ : Rho} {m : Mo} {e o elt tg iter : Expr} {es : List Expr} {pos apos cp : Pos} {ds ds' : List DV} {scope : Scope} {own : List (Str × Nat)} {X : Cx} {n : Str} {CS p : Addr} {k : Nat} {A : Aw}
theorem Of.blkX (w : Of g l X) (scope : Scope) (s : Shared) (H : Hp) (C : Addr) (cl : List (Str × Addr)) (fp : List Addr) : Of g (inn l scope) (Cx.blkX X s H scope (compEnvC scope cl C X.env) fp) := by
  have b := w.blk scope s H C cl fp
  exact ⟨b.prog, b.w, b.K, b.mg, b.base, b.N, b.sc, b.fn, b.calm, b.room, b.un, fun _ => PassesOwn.looking, fun _ _ _ h => by cases h⟩
theorem dem_lcT {is : List Nat} (nd : l.N.Nodup) (ok : blkC l.N l.sc scope own = true) (hi : DI g l tg iter ρ ds) (hlen : ds.length ≤ 100000) (his : ∀ j ∈ is, j ∈ own.map (·.2)) (hno : noOwn ρ = true) (mm : Nat → Cels) (ρ1 : DV → Rho) (hno1 : ∀ d ∈ ds, noOwn (ρ1 d) = true) (f : Nat → DV)
    (hg : ∀ d ∈ ds, DG g (inn l scope) tg is d (wipeR ρ (own.map (·.2))) (ρ1 d)) (hdm : ∀ i a, i < ds.length → mm i a = none → mm (i + 1) a = none) (he : ∀ i d, ds[i]? = some d → DEM g (inn l scope) elt (ρ1 d) (cM g.K (mm i)) (f i) (cM g.K (mm (i + 1)))) (hs : ∀ env x, foldedSetIterable iter env x = pure x := by intro _ _; rfl) (hcl : l.cb = true := by rfl) :
    DEM g l (.ListComp elt [⟨tg, iter, [], 0⟩] scope pos) ρ (cM g.K (mm 0)) (.lst ((List.range ds.length).map f)) (cM g.K (mm ds.length)) :=
  .by (rL g l elt tg iter [] scope own) (fun X w => rL.pe (hcl := hcl) w nd ok hs) (evu_lcT hi hlen his hno mm ρ1 hno1 f (fun d hd => (hg d hd).tg) (fun d hd => dts_nil) hdm he)
theorem dem_lcE {is : List Nat} {L L' : Cels} {d : DV} (mm : Nat → Cels) (f : Nat → DV) (h0 : mm 0 = L) (h1 : mm ds.length = L') (h2 : (List.range ds.length).map f = ds') (hd : d = .lst ds') (nd : l.N.Nodup) (ok : blkC l.N l.sc scope own = true) (hi : DI g l tg iter ρ ds) (hlen : ds.length ≤ 100000) (his : ∀ j ∈ is, j ∈ own.map (·.2)) (hno : noOwn ρ = true) (ρ1 : DV → Rho) (hno1 : ∀ d ∈ ds, noOwn (ρ1 d) = true)
    (hg : ∀ d ∈ ds, DG g (inn l scope) tg is d (wipeR ρ (own.map (·.2))) (ρ1 d)) (hdm : ∀ i a, i < ds.length → mm i a = none → mm (i + 1) a = none) (he : ∀ i d, ds[i]? = some d → DEM g (inn l scope) elt (ρ1 d) (cM g.K (mm i)) (f i) (cM g.K (mm (i + 1)))) (hs : ∀ env x, foldedSetIterable iter env x = pure x := by intro _ _; rfl) (hcl : l.cb = true := by rfl) :
    DEM g l (.ListComp elt [⟨tg, iter, [], 0⟩] scope pos) ρ (cM g.K L) d (cM g.K L') := by
  subst h0 h1 h2 hd
  exact dem_lcT nd ok hi hlen his hno mm ρ1 hno1 f hg hdm he hs hcl
theorem dew_lcX {is : List Nat} {d0 : DV} {R : DV → Mo → Prop} {Z : Zw} {F : Zf} {ρ1 : Rho} {es' : List DV} {pl : Env → Sem Bool} (nd : l.N.Nodup) (ok : blkC l.N l.sc scope own = true) (hi : DI g l tg iter ρ (d0 :: ds)) (hno : noOwn ρ = true) (hno1 : noOwn ρ1 = true)
    (hg : DG g (inn l scope) tg is d0 (wipeR ρ (own.map (·.2))) ρ1) (c : Cls g.K CS) (M : MeW g k CS n A) (hI : InsAt m p CS n) (h : DEM g (inn l scope) o ρ1 m (.adr p) m) (ha : DAM g (inn l scope) (e :: es) ρ1 m es' m) (hA : A m (.adr p :: es') (fun _ _ => False) F) (hz : ∀ C gs m', F C gs m' → Z ρ C gs m') (hk : k ≤ l.k := by decide)
    (hst : ∀ env, starEach (e :: es) env = (false, eval e env) :: starEach es env := by intro _; rfl) (hpl : ∀ env, (backTo cp (starEach es env)).any (·.1) = false := by intro _; rfl)
    (ht : ∀ env, eval (.Call (.Attribute o n apos) (e :: es) [] cp) env = (do
      let ov ← eval o env; standAt apos.atName; let (f, first) ← holding [ov] (getMethod ov n (pl env)); callWith cp f first (backTo cp (starEach (e :: es) env)) (backToKw cp (keywordEach [] env))) := by intro _; rfl) (hs : ∀ env x, foldedSetIterable iter env x = pure x := by intro _ _; rfl) (hcl : l.cb = true := by rfl) :
    DEW g l (.ListComp (.Call (.Attribute o n apos) (e :: es) [] cp) [⟨tg, iter, [], 0⟩] scope pos) ρ m R Z := by
  obtain ⟨f, hm, fd, ps, ok', hb⟩ := M.ex
  exact .by (fun W => tLcX (UI g l tg iter) (UG g (inn l scope) tg) (fun E => tMethZ CS n (spW g.K A) (fun _ => E) (UE g (inn l scope) o) (UA g (inn l scope) (e :: es))) (own.map (·.2)) W)
    (fun X W oz => pe_lcX (own := own) oz.hs oz.hf oz.tk (oz.o.calm hcl) (by rw [oz.o.N]; exact nd) (UI.pi oz.o tg iter) (blkOk_by (by rw [oz.o.N, oz.o.sc]; exact ok)) (fun s H C cl fp => UG.pg (oz.o.blk scope s H C cl fp) tg)
      (fun s H C cl fp E hp => have w := oz.o.blkX scope s H C cl fp; pe_methZ (pl := pl _) (CX := L2.CX X.prog X.w) (k := k) (E := fun _ => E) (UE.pe w o) (by rw [w.K]; exact c) (by rw [w.K]; exact hm) (by rw [w.prog, w.w, w.K, w.mg, w.base, oz.o.prog, oz.o.w]; exact ok') ((w.room hcl).mono hk) (by rw [w.K]; exact hb) hp (UA.pa w _) (hst _) (hpl _) (ht _)) (hs _))
    (evw_lcX hi hno hno1 hg.tg (evxe_meth hI h ha hA) hz)
end
end PD

/-! _law_word on a lambda that raises, beside cells. -/
namespace PD
open PySem PySem.Spec PyProof.Rows L2 LamX
section
variable {K : PySem.W.Frag} {S0 H0 B S H H1 : Hp} {σ : L2.St} {ρ : Rho} {P : Addr} {q : Str} {L : Cels}
theorem tab_step_c (s : Sm K S0 H0 B σ S H ρ (cM K L)) (t : TabStep P q H H1) (hL : L P = some (.tab q)) : ∃ S1, Ex S S1 ∧ Sm K S0 H0 B σ S1 H1 ρ (cM K L) := by
  rcases t with rfl | ⟨ps, pos, c', hP, ht, nC, nPc, rfl⟩
  · exact ⟨S, Ex.rf _, s⟩
  have dP : (cM K L).dom P := by show L P ≠ none; rw [hL]; exact fun y => by cases y
  have nS : S c' = none := s.g.sub.free nC
  have ndc : ¬ (cM K L).dom c' := fun z => (s.d.z c' z).2.2.2 nC
  have hE : Ex S (upd S c' (CodeO c' q)) := Ex.new nS
  have at1 : ∀ b, ¬ (cM K L).dom b → b ≠ c' → upd (upd H P (.tbl (ps ++ #[rawInt pos.line, rawInt pos.col, .ref c']))) c' (CodeO c' q) b = H b := fun b nb nc => by rw [upd_ne nc, upd_ne (fun z => nb (by rw [z]; exact dP))]
  have mx : ∀ b, mix (cM K L) H0 H b = none → mix (cM K L) H0 (upd (upd H P (.tbl (ps ++ #[rawInt pos.line, rawInt pos.col, .ref c']))) c' (CodeO c' q)) b = none := fun b z => by
    by_cases nb : (cM K L).dom b
    · rw [mix_in nb] at z
      exact absurd z (s.d.z b nb).2.2.2
    · rw [mix_out nb] at z ⊢
      exact z
  refine ⟨upd S c' (CodeO c' q), hE, ⟨⟨s.g.s.tr hE, fun b o z => ?_, fun b o z => ?_, fun b o z n => ?_⟩, s.b.tr hE, ?_, ⟨fun b z => ?_, fun p c hp => ?_⟩⟩⟩
  · by_cases nb : (cM K L).dom b
    · rw [mix_in nb] at z; exact z
    · rw [mix_out nb] at z
      have hb : H b = some o := s.g.h b o (by rw [mix_out nb]; exact z)
      rw [at1 b nb (ne_of_none hb nC)]
      exact hb
  · by_cases hb : b = c'
    · rw [hb, upd_same] at z
      rw [hb, upd_same]
      exact z
    · rw [upd_ne hb] at z
      have nb : ¬ (cM K L).dom b := fun y => by rw [(s.d.z b y).2.2.1] at z; cases z
      rw [at1 b nb hb]
      exact s.g.sub b o z
  · refine mx b ?_
    by_cases hb : b = c'
    · rw [hb, mix_out ndc]
      have e := s.g.h.free nC
      rw [mix_out ndc] at e
      exact e
    · rw [upd_ne hb] at z
      exact s.g.new b o z n
  · refine (s.n.mv hE fun b o h9 hS hb => ?_).h0 mx
    have nb : ¬ (cM K L).dom b := fun y => by rw [mix_in y, hb] at h9; cases h9
    have nc : b ≠ c' := ne_of_none hb nC
    exact ⟨by rw [upd_ne nc]; exact hS, by rw [at1 b nb nc]; exact hb⟩
  · obtain ⟨a1, a2, a3, a4⟩ := s.d.z b z
    have nc : b ≠ c' := fun y => ndc (by rw [← y]; exact z)
    refine ⟨a1, a2, by rw [upd_ne nc]; exact a3, ?_⟩
    rw [upd_ne nc]
    by_cases hb : b = P
    · rw [hb, upd_same]
      exact fun y => by cases y
    · rw [upd_ne hb]
      exact a4
  · have np : p ≠ c' := fun y => ndc (by rw [← y]; show L p ≠ none; rw [hp]; exact fun y => by cases y)
    by_cases hb : p = P
    · subst hb
      rw [hL] at hp
      cases hp
      obtain ⟨ps', e1, e2, e3⟩ := s.d.p p _ hL
      rw [hP] at e1
      cases e1
      refine ⟨ps ++ #[rawInt pos.line, rawInt pos.col, .ref c'], by rw [upd_ne nPc, upd_same], by rw [step_toList]; exact PySem.TriplesOk_snoc _ _ _ _ ht, fun p' cv hcv => ?_⟩
      rw [step_toList] at hcv
      rcases among_app _ ht hcv with z | z
      · obtain ⟨c0, y1, y2⟩ := e3 p' cv z
        exact ⟨c0, y1, hE _ _ y2⟩
      · exact ⟨c', z, by rw [upd_same]⟩
    · exact (s.d.p p c hp).mv hE (by rw [upd_ne np, upd_ne hb])
theorem noOwn_wipe (h : noOwn ρ = true) : ∀ vs : List Nat, noOwn (wipeR ρ vs) = true
  | [] => h
  | v :: vs => by
    have ih := noOwn_wipe h vs
    show noOwn ((wipeR ρ vs).set v .un) = true
    unfold noOwn at ih ⊢
    rw [List.all_eq_true] at ih ⊢
    intro x hx
    rcases List.mem_or_eq_of_mem_set hx with y | y
    · exact ih x y
    · rw [y]; rfl
theorem En.snocW {v : V} {d : DV} (n : En K H0 S H σ ρ) (h : noOwn ρ = true) (r : Rp K S v d) : En K H0 S H (σ ++ [some v]) (ρ ++ [.val d]) where
  len := by rw [List.length_append, List.length_append, n.len]; rfl
  at_ := fun i w u a b => by
    by_cases hi : i < ρ.length
    · rw [List.getElem?_append_left (by rw [n.len]; exact hi)] at a
      rw [List.getElem?_append_left hi] at b
      exact n.at_ i w u a b
    · rw [List.getElem?_append_right (by omega)] at b
      rw [List.getElem?_append_right (by rw [n.len]; omega), n.len] at a
      have h0 : i - ρ.length = 0 := by
        have := (List.getElem?_eq_some_iff.mp b).1
        simp at this
        omega
      rw [h0] at a b
      cases a
      cases b
      exact ⟨v, rfl, r⟩
  sep := fun i j p q ds es _ a _ _ _ => by
    have no : noOwn (ρ ++ [.val d]) = true := by
      unfold noOwn at h ⊢
      rw [List.all_append, h]
      rfl
    exact absurd (noOwn_get no a) (by simp [EV.isOwn])
end
/-- what _law_word says of what a lambda raises -/
inductive Wd (CN CE : Addr) : Addr → Str → Prop
  | n : Wd CN CE CN "nothing" | e : Wd CN CE CE "edit"
structure Wx (g : Gb) (CN CE : Addr) : Prop where
  n : g.mg "NothingDone" = some (.ref CN)
  e : g.mg "BadEdit" = some (.ref CE)
  nn : PySem.W.exmOne g.K (.ref CN) (.ref CN) = some true
  en : PySem.W.exmOne g.K (.ref CE) (.ref CN) = some false
  ee : PySem.W.exmOne g.K (.ref CE) (.ref CE) = some true
def TTword (g : Gb) (CN CE : Addr) : (XK → Hp → VK → Prop) → Hp → VK → Prop := fun tl H Q => ∃ C w, Wd CN CE C w ∧ ∀ (E : XK) (Q' : VK), (∀ d S' H', Ex S' H' → Rs g.K S' H' (.str w) Q → E (.ref C) d H') → tl E H Q'
theorem evu_lamW {g : Gb} {CN CE C P : Addr} {w q : Str} {te : TE} {tz : WX → TE} {ρ : Rho} {L : Cels} {m1 : Mo} {d2 : DV} {vs : List Nat} (hL : L P = some (.tab q)) (hn : noOwn ρ = true) (h2 : EvD g.K te ρ d2) (hw : Wd CN CE C w)
    (h : EvW g.K tz (wipeR ρ vs ++ [.val d2]) (cM g.K L) (fun _ _ => False) (fun _ C' _ m' => C' = C ∧ m' = m1)) :
    EvU g.K (tLamW P q [(P, q)] (TTword g CN CE) te (fun E => tz (fun cls d _ H => E cls d H)) vs) ρ (cM g.K L) (.str w) m1 := fun S0 H0 B σ S H s Q z => ⟨fun p hp => by
    have ep : p = (P, q) := List.mem_singleton.mp hp
    subst ep
    obtain ⟨ps, a, t, r⟩ := s.cel hL
    refine ⟨ps, a, t, fun pos cv k => ?_⟩
    obtain ⟨c, e1, e2⟩ := r pos cv k
    exact ⟨c, e1, s.g.sub _ _ e2⟩, fun H1 t c' hc' => by
  obtain ⟨S1, e1, s1⟩ := tab_step_c s t hL
  refine h2 _ σ S1 H1 s1.g.sub s1.n _ fun v S2 H2 g2 r2 => ⟨g2.h _ _ hc', ?_⟩
  have s2 := s1.go g2
  have hn2 := noOwn_wipe hn vs
  have hn3 : noOwn (wipeR ρ vs ++ [.val d2]) = true := by
    unfold noOwn at hn2 ⊢
    rw [List.all_append, hn2]
    rfl
  refine ⟨C, w, hw, fun E' Q' k => ?_⟩
  refine h _ _ _ (wipe σ vs ++ [some v]) S2 H2 _ (s2.inner ((s2.n.wipe vs).snocW hn2 r2) hn3) (fun C' gs cls d ρ' m' σ' S3 H3 ⟨eC, em⟩ s3 x3 => ?_) Q' (fun d m' v S' H' hf => hf.elim)
  obtain ⟨rfl, _⟩ := x3
  subst eC em
  have bk := bk_of s3.g s3.d
  exact k d S3 H3 s3.g.sub fun u S4 H4 g4 r4 => z u S4 H4 ((s2.back bk).go g4) (e1.tr (g2.s.tr (bk.s.tr g4.s))) r4⟩
end PD
namespace SP
open PySem PySem.Spec PyProof.Rows L2 PD LamX
abbrev lwN : List Str := ["_law_function", "_law_things"]
theorem scLWord : FnScope lwN lwN (defScope s__law_word) := ⟨rfl, rfl, rfl, by decide +kernel, rfl, by decide +kernel, by decide +kernel⟩
theorem word_form : ∃ (p1 p2 p3 p4 p5 p6 p7 p8 p9 pa np nq pos1 pos2 pos : Pos) (j j1 j2 : Nat), defBody s__law_word = [.Try [.Expr (.Call (.Name "_law_function" p1) [.Name "_law_things" p4] [] p2) p3] [.ExceptHandler (some (.Name "NothingDone" np)) none [.Return (some (.Constant (.str "nothing") j1 p7)) p8] pos1, .ExceptHandler (some (.Name "BadEdit" nq)) none [.Return (some (.Constant (.str "edit") j2 p9)) pa] pos2] [] [] pos, .Return (some (.Constant .none j p5)) p6] :=
  ⟨_, _, _, _, _, _, _, _, _, _, _, _, _, _, _, _, _, _, rfl⟩
abbrev wdL (k : Nat) : Lc := ⟨k, lwN, defScope s__law_word, fun _ => true, true, none⟩
theorem en_un2 {K : PySem.W.Frag} {H0 S H : Hp} {σ : L2.St} (h : σ.length = 2) : En K H0 S H σ [.un, .un] := by
  have un : ∀ {i : Nat} {e : EV}, ([.un, .un] : Rho)[i]? = some e → e = .un := fun {i e} h => by
    match i, h with
    | 0, h => exact (Option.some.inj h).symm
    | 1, h => exact (Option.some.inj h).symm
    | i + 2, h => simp at h
  exact ⟨h, fun i v e _ h2 => by rw [un h2]; trivial, fun i j p q ds es _ h _ _ _ => by cases un h⟩
theorem gives_word {g : Gb} {l : Lc} {X : Cx} {k : Nat} {CN CE gd : Addr} {q : Str} (o : Of g l X) (W : Wx g CN CE) :
    GivesB X k lwN "_law_word" (defScope s__law_word) gd (defBody s__law_word) "_law_function" "_law_things" q (TTword g CN CE) := by
  intro f c' cdg s H Q v tl hr act hc ⟨C, w, hw, ht⟩
  obtain ⟨p1, p2, p3, p4, p5, p6, p7, p8, p9, pa, np, nq, pos1, pos2, pos, j, j1, j2, eB⟩ := word_form
  rw [eB]
  generalize hX : (cxOf CX0 X.prog X.w X.K X.mg X.base lwN "_law_word" (defScope s__law_word) gd cdg X.A X.stack s H E0).nox = Z
  have oZ : Of g (wdL k) Z := by
    subst hX
    exact ⟨o.prog, o.w, o.K, o.mg, o.base, rfl, rfl, fun _ _ => rfl, fun _ => rfl, fun _ => hr, hr.un, fun _ => PassesOwn.never, fun _ _ _ h => by cases h⟩
  have eK : Z.K = g.K := oZ.K
  refine ⟨_, .of (pss_cons (ps_try_many (X := Z) (Wout := fun _ _ _ _ => False)
      (tb := fun W D σ H => ∃ E : XK, σ[0]? = some (some (.ref f)) ∧ σ[1]? = some (some v) ∧ H c' = some (CodeO c' q) ∧ (∀ cls d H', E cls d H' → W cls d σ H') ∧ tl E H (fun _ H' => D.nx σ H'))
      (l := [(.ref CN, fun a cls d => USs g ((wdL k).sui a cls d) [.Return (some (.Constant (.str "nothing") j1 p7)) p8]), (.ref CE, fun a cls d => USs g ((wdL k).sui a cls d) [.Return (some (.Constant (.str "edit") j2 p9)) pa])])
      (by subst hX; rfl) (by subst hX; rfl) (by subst hX; exact L2.takes0)
      (fun W pn xe tk _ => ⟨fun pins s' σ H' D I ⟨E, h1, h2, h3, h4, h5⟩ => ?_⟩)
      (.cons ⟨by subst hX; rfl, by decide, .inl (by rw [oZ.mg]; exact W.n)⟩ (fun a oe cls d pn hz hf => USs.pss (oZ.suite hz hf) _) (.cons ⟨by subst hX; rfl, by decide, .inl (by rw [oZ.mg]; exact W.e)⟩ (fun a oe cls d pn hz hf => USs.pss (oZ.suite hz hf) _) .nil))) (pss_one (ps_ret pe_non))), ?_⟩
  · subst hX
    exact (pss_one (ps_expr (pos := p3) (act W pn xe E p1 p2 p4 tk) (by rfl)) (X := (cxOf CX0 X.prog X.w X.K X.mg X.base lwN "_law_word" (defScope s__law_word) gd cdg X.A X.stack s H E0).nox.tr pn xe)).run pins s' σ H' D I ⟨h1, h2, h3, h4, h5⟩
  · refine ⟨fun cls d H' => wMany Z.K (fun _ _ _ _ => False) _ _ cls d (L2.start lwN [.ref f, v]) H', rfl, rfl, hc, fun _ _ _ h => h, ?_⟩
    refine ht _ _ fun d S' H' ex rs => ?_
    rw [eK]
    have n0 : En g.K H' S' H' (L2.start lwN [.ref f, v]) [.un, .un] := en_un2 rfl
    cases hw with
    | n =>
      refine ⟨true, W.nn, fun _ a na => ?_, fun h => by cases h⟩
      have suite : DSs g ((wdL k).sui a (.ref CN) d) [.Return (some (.Constant (.str "nothing") j1 p7)) p8] [.un, .un] { nx := fun _ => False, rt := fun d => d = .str "nothing" } := dss_one (ds_ret de_str rfl)
      exact suite S' H' S' _ S' H' _ (Go.rf ex) (Ex.rf _) n0 ⟨fun _ _ _ _ z => z.elim, fun d v S2 H2 z g2 r2 => by subst z; exact rs v S2 H2 g2 r2, fun _ _ _ _ z => z.elim, fun _ _ _ _ z => z.elim⟩
    | e =>
      refine ⟨false, W.en, fun h => by (cases h), fun _ => ⟨true, W.ee, fun _ a na => ?_, fun h => by cases h⟩⟩
      have suite : DSs g ((wdL k).sui a (.ref CE) d) [.Return (some (.Constant (.str "edit") j2 p9)) pa] [.un, .un] { nx := fun _ => False, rt := fun d => d = .str "edit" } := dss_one (ds_ret de_str rfl)
      exact suite S' H' S' _ S' H' _ (Go.rf ex) (Ex.rf _) n0 ⟨fun _ _ _ _ z => z.elim, fun d v S2 H2 z g2 r2 => by subst z; exact rs v S2 H2 g2 r2, fun _ _ _ _ z => z.elim, fun _ _ _ _ z => z.elim⟩
abbrev lamLW (l : Lc) (k : Nat) (scope : Scope) (it : Str) : Lc := ⟨k, l.N ++ [it], scope, fun _ => false, true, none⟩
theorem ofz_lamW {g : Gb} {l : Lc} {X : Cx} {k : Nat} {A : Around} {outer : List Env} {s : Shared} {H : Hp} {E : XK} {scope : Scope} {f c' : Addr} {it : Str} (o : Of g l X) (hr : Room k (A.deeper (lamEnv X scope s.heap.objs.size f c'))) : OfZ g (lamLW l k scope it) (lamCx1 X A outer s H E scope f c' it) (fun cls d _ H => E cls d H) :=
  ⟨⟨o.prog, o.w, o.K, o.mg, o.base, by show X.N ++ [it] = l.N ++ [it]; rw [o.N], rfl, (fun _ h => by cases h), fun _ => rfl, fun _ => hr, hr.un, fun _ => passes_of rfl, fun _ _ _ h => by cases h⟩, takes_of rfl rfl rfl rfl, rfl, rfl⟩
structure Wdf (g : Gb) (CN CE : Addr) : Prop where
  wx : Wx g CN CE
  ex : ∃ gd fdg, Fun g.K "_law_word" "_law_word" s__law_word gd fdg ∧ g.mg "_law_word" = some (.ref gd) ∧ L2.Binds g.K fdg lwN []
def wipB (N : List Str) (it : Str) (vs : List Nat) : Bool := (List.range N.length).all fun i => N[i]? != some it || vs.contains i
theorem wip_by {N : List Str} {it : Str} {vs : List Nat} (h : wipB N it vs = true) : ∀ i, N[i]? = some it → i ∈ vs := fun i hi => by
  unfold wipB at h
  rw [List.all_eq_true] at h
  have := h i (List.mem_range.mpr (List.getElem?_eq_some_iff.mp hi).1)
  rw [hi] at this
  simpa using this
theorem dec_lamW {g : Gb} {n : Nat} {l : Lc} {c P CN CE C : Addr} {q w : Str} {L : Cels} {m1 : Mo} {k : Nat} {params : Arguments} {body e2 : Expr} {scope : Scope} {p lpos pos : Pos} {ρ : Rho} {d2 : DV} {it : Str} (vs : List Nat) (R : Wdf g CN CE) (TB : TabB g.base g.mg c P) (hL : L P = some (.tab q))
    (hn : noOwn ρ = true) (h2 : DE g l e2 ρ d2) (hw : Wd CN CE C w) (h : DEW g (lamLW l k scope it) body (wipeR ρ vs ++ [.val d2]) (cM g.K L) (fun _ _ => False) (fun _ C' _ m' => C' = C ∧ m' = m1)) (hk : k + 2 ≤ l.k := by decide) (Ls : lamS1B l.sc scope it = true := by decide +kernel) (hno : wipB l.N it vs = true := by decide +kernel) (hg : GlN l "_law_word" := by rfl) (hdef : ∀ env, defaultsOf params env = ([], []) := by intro _; rfl)
    (hbind : ∀ (q : Str) (cl : List (Str × Addr)) (pm cv ctv u : Value), bindArgs (PySem.W.kla_fn "<lambda>" q params body scope cl pm cv ctv) ⟨[u], []⟩ = pure [(it, u)] := by intro _ _ _ _ _ _; rfl)
    (hst : ∀ env, starEach [.Lambda params body scope lpos, e2] env = (false, eval (.Lambda params body scope lpos) env) :: starEach [e2] env := by intro _; rfl) (hst2 : ∀ env, starEach [e2] env = [(false, eval e2 env)] := by intro _; rfl) (hpl : ∀ env, (backTo pos (starEach [e2] env)).any (·.1) = false := by intro _; rfl) (hcl : l.cb = true := by rfl) :
    DEC g n l c q (.Call (.Name "_law_word" p) [.Lambda params body scope lpos, e2] [] pos) ρ (cM g.K L) (.str w) m1 := by
  obtain ⟨gd, fdg, F, hmg, hb⟩ := R.ex
  exact .by (tLamW P q [(P, q)] (TTword g CN CE) (UE g l e2) (fun E => UEZ g (lamLW l k scope it) body (fun cls d _ H => E cls d H)) vs) (fun X w' => .of (pe_lamW (gd := gd) (k := k) (by rw [w'.o.K]; exact F) scLWord rfl rfl (w'.o.gl hg) (by rw [w'.o.mg]; exact hmg) (by rw [w'.o.K]; exact hb) (gives_word w'.o R.wx) w'.qual (by rw [w'.o.base, w'.o.mg]; exact TB) w'.code (List.mem_singleton.mpr rfl) ((w'.o.room hcl).mono hk) (lamS1_by (by rw [w'.o.sc]; exact Ls)) (by rw [w'.o.N]; exact wip_by hno) (hdef _) hbind (UE.pe w'.o e2)
    (fun A outer s H E f c' hr => UEZ.pe (ofz_lamW w'.o hr) body) (hst _) (hst2 _) (hpl _))) (evu_lamW hL hn h2 hw h)
end SP

/-! The law's small defs: numbers, files, states, lines. -/
namespace SP
open PySem PySem.Spec PyProof.Rows L2 PD
variable {g : Gb} {C : Addr}
def cellsOf (xs : List Int) : List Int := if xs = [] then [5] else xs
def numOf (xs : List Int) (i : Nat) : Int :=
  let cs := cellsOf xs
  let cell := cs.getD (i % cs.length) 0 + 13 * ((i / cs.length : Nat) : Int)
  let low := cell % 1000003
  let high := (cell / 1000003) % 999983
  let mixed := ((low + 977 * (i : Int)) * 48271 + 31 * high + cs.sum % 65521) % 2147483647
  (mixed * (mixed + 31 * (i : Int) + 7)) % 2147483629 * 65537 + high
theorem num_bd (m n h : Int) : 0 ≤ (m * n) % 2147483629 * 65537 + h % 999983 ∧ (m * n) % 2147483629 * 65537 + h % 999983 < 2 ^ 60 := by
  have h1 : 0 ≤ h % 999983 ∧ h % 999983 < 999983 := ⟨Int.emod_nonneg _ (by decide), Int.emod_lt_of_pos _ (by decide)⟩
  have h2 : 0 ≤ (m * n) % 2147483629 := Int.emod_nonneg _ (by decide)
  have h3 : (m * n) % 2147483629 < 2147483629 := Int.emod_lt_of_pos _ (by decide)
  omega
theorem numOf_nn (xs : List Int) (i : Nat) : 0 ≤ numOf xs i ∧ numOf xs i < 2 ^ 60 := num_bd _ _ _
theorem cells_pos (xs : List Int) : 0 < (cellsOf xs).length := by
  unfold cellsOf
  split
  · decide
  · rename_i h
    exact List.length_pos_iff.mpr h
theorem cut_all {α : Type} {xs : List α} {k : Nat} (h : xs.length ≤ k) : cutG xs none (some (k : Int)) = xs := by
  have e2 : HT.sIx xs.length xs.length (some (k : Int)) = xs.length := by
    rw [HT.sIx_nat]
    exact Nat.min_eq_right h
  unfold cutG
  rw [e2, HT.sIx_none, List.drop_zero, Nat.sub_zero, List.take_length]
theorem scNum : FnScope ["_law_script", "_law_index", "_law_cells", "_law_cell", "_law_low", "_law_high", "_law_mixed"] ["_law_script", "_law_index"] (defScope s__law_number) := ⟨rfl, rfl, rfl, by decide +kernel, rfl, by decide +kernel, by decide +kernel⟩
def R_num : List DV → DV → Prop := fun ds d => ∃ (D : DV) (xs : List Int) (i : Nat), Scr D xs ∧ xs.length ≤ 63 ∧ i ≤ 1000 ∧ ds = [D, .int i] ∧ d = .int (numOf xs i)
theorem ok_num (B : Bt g) {f : Addr} {fd : FuncData} (F : Fun g.K "_law_number" "_law_number" s__law_number f fd) : FnOk g.P g.w g.K g.mg g.base CX0 1 f fd ["_law_script", "_law_index"] (spR g.K R_num) := by
  refine fn_ok F scNum (fun ds d ⟨D, xs, k, _, _, _, e, _⟩ => by rw [e]; rfl) fun ds d ⟨D, xs, i, hD, hl, hi, e, ed⟩ => ?_
  subst e ed
  have hp := cells_pos xs
  refine dss_cons (ds_set 2 scNum.nd (d := .lst (intsD (cellsOf xs))) ?_ ?_)
  · refine de_if (x := !decide (xs = [])) (DT.is (dt_neD hD.ok rfl (de_v 0) (dl_lst da_nil).de) ?_) (fun h => ?_) fun h => ?_
    · rw [hD.eqv]
      cases xs with
      | nil => rfl
      | cons x xs => rw [eqv_nil]; rfl
    · have hne : xs ≠ [] := by simpa using h
      have ec : cellsOf xs = xs := by unfold cellsOf; rw [if_neg hne]
      rw [ec]
      rcases hD with rfl | rfl
      · exact DE.is (de_slL (xs := intsD xs) (de_v 0) dp_none (dp_some de_int)) (by rw [show ((63 : Int)) = ((63 : Nat) : Int) from rfl, cut_all (by rw [intsD_len]; exact hl)])
      · exact DE.is (de_slF (xs := intsD xs) (de_v 0) dp_none (dp_some de_int)) (by rw [show ((63 : Int)) = ((63 : Nat) : Int) from rfl, cut_all (by rw [intsD_len]; exact hl)])
    · have he : xs = [] := by simpa using h
      subst he
      exact (dl_lst (da_cons de_int da_nil)).de
  generalize hcs : cellsOf xs = cs at hp ⊢
  have hc63 : cs.length ≤ 63 := by
    subst hcs
    unfold cellsOf
    split
    · decide
    · exact hl
  refine dss_cons (ds_set 3 scNum.nd (d := .int (cs.getD (i % cs.length) 0 + 13 * ((i / cs.length : Nat) : Int))) (de_add (de_ixL (i := ((i % cs.length : Nat) : Int)) (atI_nat (ints_get (Nat.mod_lt _ hp))) (de_v 2) (DE.is (de_mod (i := (i : Int)) (j := ((intsD cs).length : Int)) (by rw [intsD_len]; omega) (de_intOf B.int (de_v 1)) (de_len B.len (ds := intsD cs) rfl (de_v 2))) (by rw [intsD_len]; rfl)))
    (de_mul (.inl (by decide)) de_int (DE.is (de_fdiv (i := (i : Int)) (j := ((intsD cs).length : Int)) ?_ (de_v 1) (de_len B.len (ds := intsD cs) rfl (de_v 2))) (by rw [intsD_len]; rfl)))) ?_)
  · rw [intsD_len]
    exact ⟨by omega, by omega⟩
  refine dss_cons (ds_par 4 5 scNum.nd (d1 := .int ((cs.getD (i % cs.length) 0 + 13 * ((i / cs.length : Nat) : Int)) % 1000003)) (d2 := .int ((cs.getD (i % cs.length) 0 + 13 * ((i / cs.length : Nat) : Int)) / 1000003 % 999983)) (de_mod (by decide) (de_intOf B.int (de_v 3)) de_int) (de_mod (by decide) (de_intOf B.int (de_fdiv ⟨by decide, by decide⟩ (de_v 3) de_int)) de_int) ?_)
  generalize hcell : cs.getD (i % cs.length) 0 + 13 * ((i / cs.length : Nat) : Int) = cell
  refine dss_cons (ds_set 6 scNum.nd (de_mod (by decide) (de_intOf B.int (de_add (de_add (de_mul (.inr (by decide)) (de_add (de_v 4) (de_mul (.inl (by decide)) de_int (de_v 1))) de_int) (de_mul (.inl (by decide)) de_int (de_v 5))) (de_mod (by decide) (de_intOf B.int (de_sum B.sum (ns := cs) (de_v 2))) de_int))) de_int) ?_)
  generalize hm : ((cell % 1000003 + 977 * (i : Int)) * 48271 + 31 * (cell / 1000003 % 999983) + cs.sum % 65521) % 2147483647 = mixed
  have hm1 : 0 ≤ mixed ∧ mixed < 2147483647 := by
    rw [← hm]
    exact ⟨Int.emod_nonneg _ (by decide), Int.emod_lt_of_pos _ (by decide)⟩
  refine dss_one (ds_ret (de_add (de_mul (.inr (by decide)) (de_mod (by decide) (de_intOf B.int (de_mul (i := mixed) (.inl ⟨by omega, by omega⟩) (de_v 6) (de_add (de_add (de_v 6) (de_mul (.inl (by decide)) de_int (de_v 1))) de_int))) de_int) de_int) (de_v 5)) ?_)
  show DV.int _ = DV.int _
  unfold numOf
  rw [hcs]
  dsimp only
  rw [hcell, hm]
def someP : List Str := ["", "a", "b", "ab", "ba", "aa", "bb"]
def partsOf (s : Int) (n : Nat) : List Str := (List.range n).map fun (at_ : Nat) => someP.getD ((s / (3 + 11 * (at_ : Int))) % 7).toNat ""
def rowNat (s : Int) (n : Nat) : List Nat := (List.range ((s / 5) % 4).toNat).map fun (at_ : Nat) => ((s / (17 + 29 * (at_ : Int))) % (n : Int)).toNat
def fpp (s : Int) : Int := 1 + (s / 100) % 3
def fop (s : Int) : Int := 1 + (s / 300) % 3
def ftn (s : Int) : Bool := decide (0 < (s / 7) % 3)
def fileOf (C : Addr) (s : Int) (n : Nat) : DV := fileD C "ab" (partsOf s n) (rowNat s n) (fpp s) (fop s) (ftn s)
theorem some_ok : ∀ p ∈ someP, wordOk "ab" 2 p = true := by decide +kernel
theorem VS_file (s : Int) {n : Nat} (h1 : 1 ≤ n) (h4 : n ≤ 4) : VS "ab" (partsOf s n) (rowNat s n) := by
  refine ⟨.inl rfl, by unfold partsOf; rw [List.length_map, List.length_range]; exact h1, by unfold partsOf; rw [List.length_map, List.length_range]; exact h4, fun p hp => ?_, ?_, fun b hb => ?_⟩
  · unfold partsOf at hp
    rw [List.mem_map] at hp
    obtain ⟨a, _, rfl⟩ := hp
    have h7 : ((s / (3 + 11 * (a : Int))) % 7).toNat < someP.length := by
      have := Int.emod_lt_of_pos (s / (3 + 11 * (a : Int))) (show (0 : Int) < 7 by decide)
      have := Int.emod_nonneg (s / (3 + 11 * (a : Int))) (show (7 : Int) ≠ 0 by decide)
      show _ < 7
      omega
    refine some_ok _ ?_
    rw [List.getD_eq_getElem?_getD, List.getElem?_eq_getElem h7]
    exact List.getElem_mem h7
  · unfold rowNat
    rw [List.length_map, List.length_range]
    have := Int.emod_lt_of_pos (s / 5) (show (0 : Int) < 4 by decide)
    omega
  · unfold rowNat at hb
    rw [List.mem_map] at hb
    obtain ⟨a, _, rfl⟩ := hb
    have := Int.emod_lt_of_pos (s / (17 + 29 * (a : Int))) (show (0 : Int) < n by omega)
    have := Int.emod_nonneg (s / (17 + 29 * (a : Int))) (show (n : Int) ≠ 0 by omega)
    unfold partsOf
    rw [List.length_map, List.length_range]
    omega
theorem scLFi : FnScope ["_law_seed", "_law_blocks", "_law_some", "_law_parts", "_law_count", "_law_row", "_law_one", "_law_two", "_law_at"] ["_law_seed", "_law_blocks"] (defScope s__law_file) := ⟨rfl, rfl, rfl, by decide +kernel, rfl, by decide +kernel, by decide +kernel⟩
def R_lfile (C : Addr) : List DV → DV → Prop := fun ds d => ∃ (s : Int) (n : Nat), 0 ≤ s ∧ 1 ≤ n ∧ n ≤ 4 ∧ ds = [.int s, .int n] ∧ d = fileOf C s n
theorem ok_lfile (B : Bt g) (P : Fp g C) {f : Addr} {fd : FuncData} (F : Fun g.K "_law_file" "_law_file" s__law_file f fd) : FnOk g.P g.w g.K g.mg g.base CX0 6 f fd ["_law_seed", "_law_blocks"] (spR g.K (R_lfile C)) := by
  refine fn_ok F scLFi (fun ds d ⟨s, n, _, _, _, e, _⟩ => by rw [e]; rfl) fun ds d ⟨s, n, hs, h1, h4, e, ed⟩ => ?_
  subst e ed
  have vs := VS_file s h1 h4
  have hq : 0 ≤ (s / 5) % 4 ∧ (s / 5) % 4 < 4 := ⟨Int.emod_nonneg _ (by decide), Int.emod_lt_of_pos _ (by decide)⟩
  refine dss_cons (ds_set 2 scLFi.nd (d := .tup (someP.map DV.str)) (de_tup (da_cons de_str (da_cons de_str (da_cons de_str (da_cons de_str (da_cons de_str (da_cons de_str (da_cons de_str da_nil)))))))) ?_)
  refine dss_cons (ds_set 3 scLFi.nd (d := .tup (psD (partsOf s n))) (de_tupleOf B.tuple (da := .lst (psD (partsOf s n))) rfl (DE.is (dl_rL (own := [("_law_at", 8)]) scLFi.nd (by decide +kernel) (rL.ev (is := [8]) (di_r B.range (n := n) (by omega) (de_v 1)) ?_ (by decide)
    (fun d => [.val (.int s), .val (.int n), .val (.tup (someP.map DV.str)), .un, .un, .un, .un, .un, .val d]) (fun _ => true) (fun d => match d with | .int a => .str (someP.getD ((s / (3 + 11 * a)) % 7).toNat "") | _ => .non) (fun d hd => dg_n 8 scLFi.nd) (fun d hd => dts_nil) (fun d hd _ => ?_))).de ?_)) ?_)
  · rw [rangeD_len]; omega
  · unfold rangeD at hd
    rw [List.mem_map] at hd
    obtain ⟨a, ha, rfl⟩ := hd
    have ha := List.mem_range.mp ha
    have h7 : ((s / (3 + 11 * ((0 : Int) + (a : Int)))) % 7).toNat < someP.length := by
      have := Int.emod_lt_of_pos (s / (3 + 11 * ((0 : Int) + (a : Int)))) (show (0 : Int) < 7 by decide)
      have := Int.emod_nonneg (s / (3 + 11 * ((0 : Int) + (a : Int)))) (show (7 : Int) ≠ 0 by decide)
      show _ < 7
      omega
    refine de_ixT (xs := someP.map DV.str) (i := (s / (3 + 11 * ((0 : Int) + (a : Int)))) % 7) ?_ (de_v 2) (de_mod (by decide) (de_intOf B.int (de_fdiv ⟨by omega, by omega⟩ (de_v 0) (de_add de_int (de_mul (.inl (by decide)) de_int (de_v 8))))) de_int)
    have e7 : (s / (3 + 11 * ((0 : Int) + (a : Int)))) % 7 = ((((s / (3 + 11 * ((0 : Int) + (a : Int)))) % 7).toNat : Nat) : Int) := by
      have := Int.emod_nonneg (s / (3 + 11 * ((0 : Int) + (a : Int)))) (show (7 : Int) ≠ 0 by decide)
      omega
    have key : (someP.map DV.str)[((s / (3 + 11 * ((0 : Int) + (a : Int)))) % 7).toNat]? = some (.str (someP.getD ((s / (3 + 11 * ((0 : Int) + (a : Int)))) % 7).toNat "")) := by
      rw [List.getElem?_map, List.getD_eq_getElem?_getD, List.getElem?_eq_getElem h7]
      rfl
    rw [e7]
    exact atI_nat key
  · rw [filt]
    unfold rangeD partsOf psD
    rw [List.map_map, List.map_map]
    refine congrArg DV.lst (List.map_congr_left fun a _ => ?_)
    show DV.str _ = DV.str _
    rw [Int.zero_add]
  refine dss_cons (ds_set 4 scLFi.nd (d := .int ((s / 5) % 4)) (de_mod (by decide) (de_intOf B.int (de_fdiv ⟨by decide, by decide⟩ (de_v 0) de_int)) de_int) ?_)
  have eq : (s / 5) % 4 = ((((s / 5) % 4).toNat : Nat) : Int) := by omega
  refine dss_cons (ds_set 5 scLFi.nd (d := .tup (odD (rowNat s n))) (de_tupleOf B.tuple (da := .lst (odD (rowNat s n))) rfl (DE.is (dl_rL (own := [("_law_at", 8)]) scLFi.nd (by decide +kernel) (rL.ev (is := [8]) (di_r B.range (n := ((s / 5) % 4).toNat) (by omega) (DE.is (de_v 4) (by rw [← eq]))) ?_ (by decide)
    (fun d => [.val (.int s), .val (.int n), .val (.tup (someP.map DV.str)), .val (.tup (psD (partsOf s n))), .val (.int ((s / 5) % 4)), .un, .un, .un, .val d]) (fun _ => true) (fun d => match d with | .int a => .int ((s / (17 + 29 * a)) % (n : Int)) | _ => .non) (fun d hd => dg_n 8 scLFi.nd) (fun d hd => dts_nil) (fun d hd _ => ?_))).de ?_)) ?_)
  · rw [rangeD_len]; omega
  · unfold rangeD at hd
    rw [List.mem_map] at hd
    obtain ⟨a, ha, rfl⟩ := hd
    have ha := List.mem_range.mp ha
    exact de_mod (by omega) (de_intOf B.int (de_fdiv ⟨by omega, by omega⟩ (de_v 0) (de_add de_int (de_mul (.inl (by decide)) de_int (de_v 8))))) (de_v 1)
  · rw [filt]
    unfold rangeD rowNat odD
    rw [List.map_map, List.map_map]
    refine congrArg DV.lst (List.map_congr_left fun a _ => ?_)
    show DV.int _ = DV.int _
    rw [Int.zero_add, Int.toNat_of_nonneg (Int.emod_nonneg _ (by omega))]
  refine dss_cons (ds_par 6 7 scLFi.nd (d1 := .int (fpp s)) (d2 := .int (fop s)) (de_add de_int (de_mod (by decide) (de_intOf B.int (de_fdiv ⟨by decide, by decide⟩ (de_v 0) de_int)) de_int)) (de_add de_int (de_mod (by decide) (de_intOf B.int (de_fdiv ⟨by decide, by decide⟩ (de_v 0) de_int)) de_int)) ?_)
  have b1 : 1 ≤ fpp s ∧ fpp s ≤ 5 := by unfold fpp; omega
  have b2 : 1 ≤ fop s ∧ fop s ≤ 5 := by unfold fop; omega
  exact dss_one (ds_ret (de_make P.make (da_cons de_str (da_cons (de_v 3) (da_cons (de_v 5) da_nil))) (dk_cons (de_v 6) (dk_cons (de_v 7) (dk_cons (de_gtI (de_mod (by decide) (de_intOf B.int (de_fdiv ⟨by decide, by decide⟩ (de_v 0) de_int)) de_int) de_int) dk_nil))) ⟨"ab", partsOf s n, rowNat s n, fpp s, fop s, ftn s, vs, b1, b2, rfl, rfl⟩) rfl)
end SP

namespace SP
open PySem PySem.Spec PyProof.Rows L2 PD
variable {g : Gb} {C : Addr}
section
variable {l : Lc} {ρ : Rho} {e : Expr} {pos p1 : Pos} {j : Option Str} {ls : Str} {ps : List Str} {od : List Nat} {pp op : Int} {tn : Bool}
end
end SP

namespace SP
open PySem PySem.Spec PyProof.Rows L2 PD
variable {g : Gb} {C : Addr}
end SP

namespace SP
open PySem PySem.Spec PyProof.Rows L2 PD
variable {g : Gb} {C : Addr}
section
variable {l : Lc} {ρ : Rho} {e : Expr} {pos p1 p2 p3 : Pos} {k : Nat} {j : Nat} {w : Wr}
end
end SP

/-! _law_state, _law_after, _law_writes. -/
namespace SP
open PySem PySem.Spec PyProof.Rows L2 PD
variable {g : Gb} {C : Addr}
theorem scLSt : FnScope ["_law_file_here"] ["_law_file_here"] (defScope s__law_state) := ⟨rfl, rfl, rfl, by decide +kernel, rfl, by decide +kernel, by decide +kernel⟩
theorem ok_lstate (L : Fl g C) (P : Fp g C) {f : Addr} {fd : FuncData} (F : Fun g.K "_law_state" "_law_state" s__law_state f fd) : FnOk g.P g.w g.K g.mg g.base CX0 3 f fd ["_law_file_here"] (spR g.K (R_fstate C)) := by
  refine fn_ok F scLSt (fun ds d ⟨_, _, _, _, _, _, e, _⟩ => by rw [e]; rfl) fun ds d ⟨ls, ps, od, pp, op, tn, e, ed⟩ => ?_
  subst e ed
  exact dss_one (ds_ret (de_tup (da_cons (de_ps L P (de_v 0)) (da_cons (de_od L P (de_v 0)) da_nil))) rfl)
theorem scLAf : FnScope ["_law_state_here", "_law_write"] ["_law_state_here", "_law_write"] (defScope s__law_after) := ⟨rfl, rfl, rfl, by decide +kernel, rfl, by decide +kernel, by decide +kernel⟩
theorem ok_lafter {f : Addr} {fd : FuncData} (F : Fun g.K "_law_after" "_law_after" s__law_after f fd) : FnOk g.P g.w g.K g.mg g.base CX0 1 f fd ["_law_state_here", "_law_write"] (spR g.K R_safter) := by
  refine fn_ok F scLAf (fun ds d ⟨_, _, _, _, _, e, _⟩ => by rw [e]; rfl) fun ds d ⟨ps, od, w, hw, h4, e, ed⟩ => ?_
  subst e ed
  cases w with
  | order o =>
    exact dss_cons (ds_if (x := true) (DT.is (dt_eqS (de_ixT (d := .str "order") rfl (de_v 1) de_int) de_str) (by decide)) (fun _ => dss_one (ds_ret (de_tup (da_cons (de_ixT (d := .tup (psD ps)) rfl (de_v 0) de_int) (da_cons (de_ixT (d := .tup (odD o)) rfl (de_v 1) de_int) da_nil))) rfl)) fun z => by cases z)
  | piece b p =>
    have hb : b < ps.length := hw
    refine dss_cons (ds_if (x := false) (DT.is (dt_eqS (de_ixT (d := .str "piece") rfl (de_v 1) de_int) de_str) (by decide)) (fun z => by cases z) fun _ => dss_nil ?_)
    have bi {ρ : Rho} (h : ρ[1]? = some (.val (Wr.d (.piece b p)))) : True := trivial
    refine dss_one (ds_ret (de_tup (da_cons (DE.is (d' := .tup (psD (ps.set b p))) (de_catT (i := (psD ps).take b ++ [.str p]) (j := (psD ps).drop (b + 1)) ?_ (de_catT (i := (psD ps).take b) (j := [.str p]) ?_ (DE.is (de_slT (xs := psD ps) (de_ixT (d := .tup (psD ps)) rfl (de_v 0) de_int) dp_none (dp_some (de_ixT (d := .int (b : Int)) rfl (de_v 1) de_int))) ?_) (de_tup (da_cons (de_ixT (d := .str p) rfl (de_v 1) de_int) da_nil)))
      (DE.is (de_slT (xs := psD ps) (i := some ((b + 1 : Nat) : Int)) (de_ixT (d := .tup (psD ps)) rfl (de_v 0) de_int) (dp_some (DE.is (de_add (de_ixT (d := .int (b : Int)) rfl (de_v 1) de_int) de_int) ?_)) dp_none) ?_)) ?_) (da_cons (de_ixT (d := .tup (odD od)) rfl (de_v 0) de_int) da_nil))) rfl)
    · rw [List.length_append, List.length_take, List.length_drop, psD_len, List.length_singleton]; omega
    · rw [List.length_take, psD_len, List.length_singleton]; omega
    · rw [cutG_to (by rw [psD_len]; omega)]
    · rfl
    · rw [cutG_from]
    · rw [set_cut (by rw [psD_len]; exact hb)]
      unfold psD
      rw [List.map_set]
def fwB (ps : List Str) (b : Nat) (l : List Str) : List Wr := (l.filter fun n => !decide (n = oldP ps b)).map fun n => Wr.piece b n
def fw (ps : List Str) (i : Nat) : List Wr := (List.range i).flatMap fun b => fwB ps b (piecesOf "ab")
theorem zip_rangeP (ps : List Str) : ps.zipIdx = (List.range ps.length).map fun i => (oldP ps i, i) := by
  refine List.ext_getElem? fun i => ?_
  rw [List.getElem?_zipIdx, List.getElem?_map]
  by_cases h : i < ps.length
  · rw [List.getElem?_range h, get_piece h]
    simp
  · rw [List.getElem?_eq_none (by omega), List.getElem?_eq_none (by rw [List.length_range]; omega)]
    rfl
theorem fw_eq (ps : List Str) (od : List Nat) : fw ps ps.length ++ ((ordersOf ps.length).filter fun o => !decide (o = od)).map Wr.order = writesOf "ab" ps od := by
  unfold fw fwB writesOf
  rw [zip_rangeP, List.flatMap_map]
theorem fw_succ (ps : List Str) (i : Nat) : fw ps (i + 1) = fw ps i ++ fwB ps i (piecesOf "ab") := by
  unfold fw
  rw [List.range_succ, List.flatMap_append, List.flatMap_cons, List.flatMap_nil, List.append_nil]
theorem fwB_len (ps : List Str) (b : Nat) (l : List Str) : (fwB ps b l).length ≤ l.length := by
  unfold fwB
  rw [List.length_map]
  exact List.length_filter_le _ _
theorem fw_len (ps : List Str) : ∀ i, (fw ps i).length ≤ 7 * i
  | 0 => Nat.zero_le _
  | i + 1 => by
    rw [fw_succ, List.length_append]
    have h1 := fw_len ps i
    have h2 := fwB_len ps i (piecesOf "ab")
    have h3 : (piecesOf "ab").length = 7 := by decide +kernel
    omega
/-- the layers of orders -/
def layQ (n : Nat) : Nat → List (List Nat)
  | 0 => [[]]
  | k + 1 => (layQ n k).flatMap fun o => (List.range n).map fun b => o ++ [b]
def rowsQ (n : Nat) : Nat → List (List Nat)
  | 0 => [[]]
  | k + 1 => rowsQ n k ++ layQ n (k + 1)
theorem rowsQ_eq {n : Nat} (h : n ≤ 4) : rowsQ n 3 = ordersOf n := by
  have : ∀ n ≤ 4, rowsQ n 3 = ordersOf n := by decide +kernel
  exact this n h
theorem layQ_len {n : Nat} (h : n ≤ 4) : (layQ n 0).length ≤ 1 ∧ (layQ n 1).length ≤ 4 ∧ (layQ n 2).length ≤ 16 ∧ (layQ n 3).length ≤ 64 := by
  have : ∀ n ≤ 4, (layQ n 0).length ≤ 1 ∧ (layQ n 1).length ≤ 4 ∧ (layQ n 2).length ≤ 16 ∧ (layQ n 3).length ≤ 64 := by decide +kernel
  exact this n h
theorem pieces_ab : [("" : Str), "a", "b", "aa", "ab", "ba", "bb"] = piecesOf "ab" := by decide +kernel
abbrev lwsN : List Str := ["_law_file_here", "_law_state_here", "_law_found", "_law_block", "_law_piece", "_law_rows", "_law_layer", "_law_size", "_law_longer", "_law_row"]
theorem scLWs : FnScope lwsN ["_law_file_here", "_law_state_here"] (defScope s__law_writes) := ⟨rfl, rfl, rfl, by decide +kernel, rfl, by decide +kernel, by decide +kernel⟩
def R_lwrs : List DV → DV → Prop := fun ds d => ∃ (f : DV) (ps : List Str) (od : List Nat), VS "ab" ps od ∧ ds = [f, stD ps od] ∧ d = wrsD (writesOf "ab" ps od)
theorem ok_lwrs (B : Bt g) {f : Addr} {fd : FuncData} (F : Fun g.K "_law_writes" "_law_writes" s__law_writes f fd) : FnOk g.P g.w g.K g.mg g.base CX0 1 f fd ["_law_file_here", "_law_state_here"] (spR g.K R_lwrs) := by
  refine fn_ok F scLWs (fun ds d ⟨_, _, _, _, e, _⟩ => by rw [e]; rfl) fun ds d ⟨fl, ps, od, vs, e, ed⟩ => ?_
  subst e ed
  have h4 := vs.hps
  have lay := layQ_len h4
  refine dss_cons (ds_setL 2 scLWs.nd (dl_lst da_nil) ?_)
  refine dss_cons (ds_for (is := [3]) (di_r B.range (n := ps.length) (by omega) (DE.is (de_len B.len (ds := psD ps) rfl (de_ixT (d := .tup (psD ps)) rfl (de_v 1) de_int)) (by rw [psD_len])))
    (fun i ρ => ∃ x3 x4 : EV, i ≤ ps.length ∧ x3.isOwn = false ∧ x4.isOwn = false ∧ ρ = [.val fl, .val (stD ps od), .own ((fw ps i).map Wr.d), x3, x4, .un, .un, .un, .un, .un]) ⟨.un, .un, Nat.zero_le _, rfl, rfl, rfl⟩ ?_ ?_)
  · rintro i d ρ hd ⟨x3, x4, hi, n3, n4, rfl⟩
    have hi2 : i < ps.length := by
      have := (List.getElem?_eq_some_iff.mp hd).1
      rw [rangeD_len] at this
      exact this
    have ed : d = .int (i : Int) := by
      unfold rangeD at hd
      rw [List.getElem?_map, List.getElem?_range hi2] at hd
      cases hd
      show DV.int _ = _
      rw [Int.zero_add]
    subst ed
    refine ⟨_, dg_n 3 scLWs.nd, ?_⟩
    refine dss_one (ds_for (is := [4]) (di_t (ds := psD (piecesOf "ab")) (DE.is (de_tup (da_cons de_str (da_cons de_str (da_cons de_str (da_cons de_str (da_cons de_str (da_cons de_str (da_cons de_str da_nil)))))))) (by rw [← pieces_ab]; rfl)))
      (fun j ρ => ∃ x4 : EV, x4.isOwn = false ∧ j ≤ 7 ∧ ρ = [.val fl, .val (stD ps od), .own ((fw ps i ++ fwB ps i ((piecesOf "ab").take j)).map Wr.d), .val (.int (i : Int)), x4, .un, .un, .un, .un, .un]) ⟨x4, n4, by decide, by show _ = _; rw [show fwB ps i ((piecesOf "ab").take 0) = [] from rfl, List.append_nil]; rfl⟩ ?_ ?_)
    · rintro j d ρ hd ⟨x4', n4', hj, rfl⟩
      obtain ⟨p, hp, rfl⟩ := psD_at hd
      have hj7 : j < 7 := by
        have := (List.getElem?_eq_some_iff.mp hp).1
        have e7 : (piecesOf "ab").length = 7 := by decide +kernel
        omega
      have tk : (piecesOf "ab").take (j + 1) = (piecesOf "ab").take j ++ [p] := take_more hp
      have len : (fw ps i ++ fwB ps i ((piecesOf "ab").take j)).length ≤ 100 := by
        rw [List.length_append]
        have h1 := fw_len ps i
        have h2 := fwB_len ps i ((piecesOf "ab").take j)
        rw [List.length_take] at h2
        omega
      refine ⟨_, dg_n 4 scLWs.nd, ?_⟩
      refine dss_one (ds_if (x := !decide (p = oldP ps i)) (dt_neS (de_v 4) (de_ixT (xs := psD ps) (i := (i : Int)) (d := .str (oldP ps i)) (atI_nat (psD_get (get_piece hi2))) (de_ixT (d := .tup (psD ps)) rfl (de_v 1) de_int) (de_v 3))) (fun hx => ?_) fun hx => ?_)
      · refine dss_one (ds_append 2 rfl (de_tup (da_cons de_str (da_cons (de_v 3) (da_cons (de_v 4) da_nil)))) (by rw [List.length_map]; omega) ⟨.val (.str p), rfl, by omega, ?_⟩)
        rw [tk]
        have e : fwB ps i ((piecesOf "ab").take j ++ [p]) = fwB ps i ((piecesOf "ab").take j) ++ [.piece i p] := by
          unfold fwB
          rw [List.filter_append, List.map_append, List.filter_cons, if_pos hx]
          rfl
        rw [e, ← List.append_assoc, List.map_append (l₂ := [Wr.piece i p])]
        rfl
      · refine dss_nil ⟨.val (.str p), rfl, by omega, ?_⟩
        rw [tk]
        have e : fwB ps i ((piecesOf "ab").take j ++ [p]) = fwB ps i ((piecesOf "ab").take j) := by
          unfold fwB
          rw [List.filter_append, List.map_append, List.filter_cons, if_neg (by rw [hx]; decide)]
          exact List.append_nil _
        rw [e]
        rfl
    · rintro ρ ⟨x4', n4', _, rfl⟩
      refine ⟨.val (.int (i : Int)), x4', by omega, rfl, n4', ?_⟩
      rw [fw_succ, show (psD (piecesOf "ab")).length = (piecesOf "ab").length from psD_len _, List.take_length]
  · rintro ρ ⟨x3, x4, _, n3, n4, rfl⟩
    rw [rangeD_len]
    have l1 := fw_len ps ps.length
    refine dss_cons (ds_par 5 6 scLWs.nd (d1 := .lst ((rowsQ ps.length 0).map oD)) (d2 := .lst ((layQ ps.length 0).map oD)) (dl_lst (da_cons (de_tup da_nil) da_nil)).de (dl_lst (da_cons (de_tup da_nil) da_nil)).de ?_)
    refine dss_cons (ds_for (is := [7]) (di_r B.range (n := 3) (by decide) de_int) (fun k ρ => ∃ x3 x7 x8 x9 : EV, k ≤ 3 ∧ ρ = [.val fl, .val (stD ps od), .own ((fw ps ps.length).map Wr.d), x3, x4, .val (.lst ((rowsQ ps.length k).map oD)), .val (.lst ((layQ ps.length k).map oD)), x7, x8, x9]) ⟨x3, .un, .un, .un, by decide, rfl⟩ ?_ ?_)
    · rintro k d ρ hd ⟨x3, x7, x8, x9, hk, rfl⟩
      have hk3 : k < 3 := by
        have := (List.getElem?_eq_some_iff.mp hd).1
        rw [rangeD_len] at this
        exact this
      have lk : (layQ ps.length k).length ≤ 16 := by
        have : k = 0 ∨ k = 1 ∨ k = 2 := by omega
        rcases this with rfl | rfl | rfl <;> omega
      have lk1 : (layQ ps.length (k + 1)).length ≤ 64 := by
        have : k = 0 ∨ k = 1 ∨ k = 2 := by omega
        rcases this with rfl | rfl | rfl
        · exact Nat.le_trans lay.2.1 (by decide)
        · exact Nat.le_trans lay.2.2.1 (by decide)
        · exact lay.2.2.2
      have lr : (rowsQ ps.length k).length ≤ 21 := by
        have : k = 0 ∨ k = 1 ∨ k = 2 := by omega
        rcases this with rfl | rfl | rfl
        · show 1 ≤ 21; decide
        · show (rowsQ ps.length 0 ++ layQ ps.length 1).length ≤ 21
          rw [List.length_append]
          have : (rowsQ ps.length 0).length = 1 := rfl
          omega
        · show ((rowsQ ps.length 0 ++ layQ ps.length 1) ++ layQ ps.length 2).length ≤ 21
          rw [List.length_append, List.length_append]
          have : (rowsQ ps.length 0).length = 1 := rfl
          omega
      refine ⟨_, dg_n 7 scLWs.nd, ?_⟩
      refine dss_cons (ds_set 8 scLWs.nd (d := .lst []) (dl_lst da_nil).de ?_)
      refine dss_cons (ds_for (is := [9]) (di_l (ds := (layQ ps.length k).map oD) (de_v 6)) (fun j ρ => ∃ x9 : EV, j ≤ (layQ ps.length k).length ∧ ρ = [.val fl, .val (stD ps od), .own ((fw ps ps.length).map Wr.d), x3, x4, .val (.lst ((rowsQ ps.length k).map oD)), .val (.lst ((layQ ps.length k).map oD)), .val d,
        .val (.lst ((((layQ ps.length k).take j).flatMap fun o => (List.range ps.length).map fun b => o ++ [b]).map oD)), x9]) ⟨x9, Nat.zero_le _, rfl⟩ ?_ ?_)
      · rintro j dj ρ hdj ⟨x9, hj, rfl⟩
        rw [List.getElem?_map] at hdj
        obtain ⟨o, ho, rfl⟩ := Option.map_eq_some_iff.mp hdj
        have hjl : j < (layQ ps.length k).length := (List.getElem?_eq_some_iff.mp ho).1
        have tk : (layQ ps.length k).take (j + 1) = (layQ ps.length k).take j ++ [o] := take_more ho
        have olen : o.length ≤ 10 := by
          have : ∀ n ≤ 4, ∀ k ≤ 3, ∀ o ∈ layQ n k, o.length ≤ 10 := by decide +kernel
          exact this _ h4 k (by omega) o (List.mem_of_getElem? ho)
        have flen : (((layQ ps.length k).take j).flatMap fun o => (List.range ps.length).map fun b => o ++ [b]).length ≤ 64 := by
          rw [List.length_flatMap]
          have e : (((layQ ps.length k).take j).map fun o => ((List.range ps.length).map fun b => o ++ [b]).length).sum ≤ (((layQ ps.length k).take j).map fun o => ((List.range ps.length).map fun b => o ++ [b]).length).length * 4 := sum_le fun x hx => by
            rw [List.mem_map] at hx
            obtain ⟨y, _, rfl⟩ := hx
            rw [List.length_map, List.length_range]
            exact h4
          rw [List.length_map, List.length_take] at e
          have : min j (layQ ps.length k).length ≤ 16 := by omega
          omega
        refine ⟨_, dg_n 9 scLWs.nd, dss_one (ds_set 8 scLWs.nd (d := .lst ((((layQ ps.length k).take j).flatMap fun o => (List.range ps.length).map fun b => o ++ [b]).map oD ++ ((List.range ps.length).map fun b => o ++ [b]).map oD)) (de_catL (i := (((layQ ps.length k).take j).flatMap fun o => (List.range ps.length).map fun b => o ++ [b]).map oD) (j := ((List.range ps.length).map fun b => o ++ [b]).map oD) ?_ (de_v 8) (DE.is (dl_rL (own := [("_law_block", 3)]) scLWs.nd (by decide +kernel) (rL.ev (is := [3]) (di_r B.range (n := ps.length) (by omega) (DE.is (de_len B.len (ds := psD ps) rfl (de_ixT (d := .tup (psD ps)) rfl (de_v 1) de_int)) (by rw [psD_len]))) ?_ (by decide)
          (fun dd => [.val fl, .val (stD ps od), .own ((fw ps ps.length).map Wr.d), .val dd, x4, .val (.lst ((rowsQ ps.length k).map oD)), .val (.lst ((layQ ps.length k).map oD)), .val d, .val (.lst ((((layQ ps.length k).take j).flatMap fun o => (List.range ps.length).map fun b => o ++ [b]).map oD)), .val (oD o)]) (fun _ => true) (fun dd => match dd with | .int b => .tup (odD o ++ [.int b]) | _ => .non) (fun d hd => dg_n 3 scLWs.nd) (fun d hd => dts_nil) (fun dd hdd _ => ?_))).de ?_)) ⟨.val (oD o), hjl, ?_⟩)⟩
        · rw [List.length_map, List.length_map, List.length_map, List.length_range]; omega
        · rw [rangeD_len]; omega
        · obtain ⟨b, rfl⟩ := range_int hdd
          exact de_catT (i := odD o) (j := [.int b]) (by rw [odD_len, List.length_singleton]; omega) (de_v 9) (de_tup (da_cons (de_v 3) da_nil))
        · rw [filt]
          unfold rangeD
          rw [List.map_map, List.map_map]
          refine congrArg DV.lst (List.map_congr_left fun b _ => ?_)
          show DV.tup (odD o ++ [.int ((0 : Int) + (b : Int))]) = oD (o ++ [b])
          unfold oD odD
          rw [List.map_append, Int.zero_add]
          rfl
        · rw [tk, List.flatMap_append, List.flatMap_cons, List.flatMap_nil, List.append_nil, List.map_append]
          rfl
      · rintro ρ ⟨x9, _, rfl⟩
        rw [List.length_map, List.take_length]
        refine dss_one (ds_par 5 6 scLWs.nd (d1 := .lst ((rowsQ ps.length (k + 1)).map oD)) (d2 := .lst ((layQ ps.length (k + 1)).map oD)) (DE.is (de_catL (i := (rowsQ ps.length k).map oD) (j := (layQ ps.length (k + 1)).map oD) ?_ (de_v 5) (de_v 8)) ?_) (de_v 8) ⟨x3, _, _, x9, by omega, rfl⟩)
        · rw [List.length_map, List.length_map]; omega
        · rw [← List.map_append]
          rfl
    · rintro ρ ⟨x3, x7, x8, x9, _, rfl⟩
      rw [rangeD_len, rowsQ_eq h4]
      have ol := ordersOf_len h4
      have fl85 : (((ordersOf ps.length).filter fun o => !decide (o = od)).map Wr.order).length ≤ 85 := by
        rw [List.length_map]
        exact Nat.le_trans (List.length_filter_le _ _) ol
      refine dss_freeze 2 rfl (dss_one (ds_ret (DE.is (de_catL (i := (fw ps ps.length).map Wr.d) (j := (((ordersOf ps.length).filter fun o => !decide (o = od)).map Wr.order).map Wr.d) ?_ (de_v 2) (DE.is (dl_rL (own := [("_law_row", 9)]) scLWs.nd (by decide +kernel) (rL.ev (is := [9]) (di_l (ds := (ordersOf ps.length).map oD) (de_v 5)) ?_ (by decide)
        (fun dd => [.val fl, .val (stD ps od), .val (.lst ((fw ps ps.length).map Wr.d)), x3, x4, .val (.lst ((ordersOf ps.length).map oD)), .val (.lst ((layQ ps.length 3).map oD)), x7, x8, .val dd]) (orderNew od) orderWr (fun d hd => dg_n 9 scLWs.nd) (fun dd hdd => ?_) (fun dd hdd _ => ?_))).de ?_)) ?_) rfl))
      · rw [List.length_map, List.length_map]; omega
      · rw [List.length_map]; omega
      · rw [List.mem_map] at hdd
        obtain ⟨o, _, rfl⟩ := hdd
        exact dts_one (dt_neD (ok_odD o) (ok_odD od) (de_v 9) (de_ixT (d := .tup (odD od)) rfl (de_v 1) de_int))
      · exact de_tup (da_cons de_str (da_cons (de_v 9) da_nil))
      · rw [writes_orders]
      · rw [← List.map_append, fw_eq]
        rfl
end SP

/-! Sessions: edits one after the other; edits that are tried. -/
namespace PD
open PySem PySem.Spec PyProof.Rows L2 LamX
theorem cu_id {L : Cels} {p : Addr} {c : Cel} (h : L p = some c) : cu L p c = L := funext fun q => by
  unfold cu
  by_cases w : q = p
  · rw [if_pos w, w, h]
  · rw [if_neg w]
theorem MeW.v {g : Gb} {k : Nat} {C : Addr} {n : Str} {A : Aw} (M : MeW g k C n A) : MeM g k C n fun m ds R => A m ds R noZ := by
  obtain ⟨f, hm, fd, ps, ok, hb⟩ := M.ex
  exact ⟨f, hm, fd, ps, FnOk.noW ok, hb⟩
section
variable {g : Gb} {l : Lc} {ρ : Rho} {m m' : Mo} {e o : Expr} {es : List Expr} {pos apos : Pos} {n : Str} {C p : Addr} {k : Nat} {A : Mo → List DV → (DV → Mo → Prop) → Prop} {ds : List DV} {d : DV} {R : DV → Mo → Prop}
theorem DER.one (h : DER g l e ρ m fun d' m2 => d' = d ∧ m2 = m') : DEM g l e ρ m d m' := fun S0 H0 B σ S H s Q q => h S0 H0 B σ S H s Q fun d' m2 v S' H' ⟨e1, e2⟩ s' e r => by
  subst e1 e2
  exact q v S' H' s' e r
theorem DER.mono {R' : DV → Mo → Prop} (h : DER g l e ρ m R) (w : ∀ d m', R d m' → R' d m') : DER g l e ρ m R' := fun S0 H0 B σ S H s Q q => h S0 H0 B σ S H s Q fun d' m2 v S' H' r => q d' m2 v S' H' (w d' m2 r)
end
end PD
namespace SP
open PySem PySem.Spec PyProof.Rows L2 PD
variable {g : Gb} {C CS CSc CT CE CN CB : Addr}
/-- pieces, order, aim -/
abbrev Sx := List Str × List Nat × Option Str
def stepE (tn : Bool) (s : Sx) (e : Ed) : Sx := ((edRes tn s.1 s.2.1 s.2.2 e).1, (edRes tn s.1 s.2.1 s.2.2 e).2.1, (edRes tn s.1 s.2.1 s.2.2 e).2.2.1)
def ansE (tn : Bool) (s : Sx) (e : Ed) : DV := (edRes tn s.1 s.2.1 s.2.2 e).2.2.2
def okEds (ls : Str) (tn : Bool) : Sx → List Ed → Prop
  | _, [] => True
  | s, e :: es => okEd ls s.1 s.2.1 e ∧ okEds ls tn (stepE tn s e) es
def stAt (tn : Bool) (s : Sx) (es : List Ed) (i : Nat) : Sx := (es.take i).foldl (stepE tn) s
def fileS (C : Addr) (ls : Str) (pp op : Int) (tn : Bool) (s : Sx) : DV := fileD C ls s.1 s.2.1 pp op tn
def newM (C : Addr) (ls : Str) (pp op : Int) (tn : Bool) (s : Sx) (e : Ed) : DV := momD (fileS C ls pp op tn (stepE tn s e)) (aimD (stepE tn s e).2.2) (.tup [e.d, ansE tn s e])
def momsOf (C : Addr) (ls : Str) (pp op : Int) (tn : Bool) (s : Sx) (es : List Ed) : List DV := (List.range es.length).map fun i => newM C ls pp op tn (stAt tn s es i) (es.getD i (.aim ""))
def anssOf (tn : Bool) (s : Sx) (es : List Ed) : List DV := (List.range es.length).map fun i => ansE tn (stAt tn s es i) (es.getD i (.aim ""))
structure okSx (ls : Str) (pp op : Int) (s : Sx) : Prop where
  v : VF ls s.1 s.2.1 pp op
  a : okAim ls s.2.2
theorem okSx.step {ls : Str} {pp op : Int} {tn : Bool} {s : Sx} {e : Ed} (k : okSx ls pp op s) (h : okEd ls s.1 s.2.1 e) : okSx ls pp op (stepE tn s e) := by
  cases e with
  | aim t =>
    refine ⟨k.v, fun t' e' => ?_⟩
    have e2 : (if t = textOf s.1 s.2.1 then none else some t) = some t' := e'
    split at e2
    · cases e2
    · cases e2
      exact h
  | wr w =>
    unfold stepE edRes
    by_cases h1 : safeOf s.1 s.2.1 w tn (s.2.2.getD (textOf s.1 s.2.1)) = true
    · simp only [if_pos h1]
      by_cases h2 : textOf (afterP s.1 w) (afterO s.2.1 w) = textOf s.1 s.2.1
      · simp only [if_pos h2]
        exact ⟨⟨k.v.v.after h.1, k.v.pp, k.v.op⟩, k.a⟩
      · simp only [if_neg h2]
        exact ⟨⟨k.v.v.after h.1, k.v.pp, k.v.op⟩, fun t e => by cases e⟩
    · simp only [if_neg h1]
      exact k
theorem okEds_get {ls : Str} {tn : Bool} : ∀ {es : List Ed} {s : Sx} {i : Nat} {e : Ed}, okEds ls tn s es → es[i]? = some e → okEd ls (stAt tn s es i).1 (stAt tn s es i).2.1 e
  | [], _, _, _, _, h => by simp at h
  | e0 :: es, s, 0, e, ⟨h, _⟩, he => by
    cases he
    exact h
  | e0 :: es, s, i + 1, e, ⟨_, h⟩, he => okEds_get (i := i) h he
theorem okSx_at {ls : Str} {pp op : Int} {tn : Bool} : ∀ {es : List Ed} {s : Sx} (i : Nat), okSx ls pp op s → okEds ls tn s es → okSx ls pp op (stAt tn s es i)
  | [], s, i, k, _ => by
    unfold stAt
    rw [List.take_nil]
    exact k
  | e0 :: es, s, 0, k, _ => k
  | e0 :: es, s, i + 1, k, ⟨h0, h⟩ => okSx_at (es := es) i (k.step h0) h
theorem stAt_succ {tn : Bool} {s : Sx} {es : List Ed} {i : Nat} {e : Ed} (h : es[i]? = some e) : stAt tn s es (i + 1) = stepE tn (stAt tn s es i) e := by
  unfold stAt
  rw [take_more h, List.foldl_append]
  rfl
/-- the last moment is that of s -/
def Hist (C : Addr) (ls : Str) (pp op : Int) (tn : Bool) (ms : List DV) (s : Sx) : Prop := ∃ ms0 pr, ms = ms0 ++ [momD (fileS C ls pp op tn s) (aimD s.2.2) pr]
theorem hist_new {ls : Str} {pp op : Int} {tn : Bool} {ms : List DV} {s : Sx} {e : Ed} : Hist C ls pp op tn (ms ++ [newM C ls pp op tn s e]) (stepE tn s e) := ⟨ms, _, rfl⟩
theorem hist_at {ls : Str} {pp op : Int} {tn : Bool} {ms : List DV} {s : Sx} {es : List Ed} (h : Hist C ls pp op tn ms s) : ∀ i, i ≤ es.length → Hist C ls pp op tn (ms ++ (momsOf C ls pp op tn s es).take i) (stAt tn s es i)
  | 0, _ => by rw [List.take_zero, List.append_nil]; exact h
  | i + 1, hi => by
    have hg : es[i]? = some es[i] := List.getElem?_eq_getElem (by omega)
    have hm : (momsOf C ls pp op tn s es)[i]? = some (newM C ls pp op tn (stAt tn s es i) es[i]) := by
      unfold momsOf
      rw [List.getElem?_map, List.getElem?_range (by omega)]
      show some (newM C ls pp op tn (stAt tn s es i) (es.getD i _)) = _
      rw [List.getD_eq_getElem?_getD, hg]
      rfl
    rw [take_more hm, ← List.append_assoc, stAt_succ hg]
    exact hist_new
theorem momsOf_len {ls : Str} {pp op : Int} {tn : Bool} {s : Sx} {es : List Ed} : (momsOf C ls pp op tn s es).length = es.length := by
  unfold momsOf
  rw [List.length_map, List.length_range]
theorem momsOf_snoc {ls : Str} {pp op : Int} {tn : Bool} {s : Sx} {es : List Ed} {i : Nat} {e : Ed} (h : es[i]? = some e) : (momsOf C ls pp op tn s es).take (i + 1) = (momsOf C ls pp op tn s es).take i ++ [newM C ls pp op tn (stAt tn s es i) e] := by
  have hm : (momsOf C ls pp op tn s es)[i]? = some (newM C ls pp op tn (stAt tn s es i) e) := by
    have hi := (List.getElem?_eq_some_iff.mp h).1
    unfold momsOf
    rw [List.getElem?_map, List.getElem?_range hi]
    show some (newM C ls pp op tn (stAt tn s es i) (es.getD i _)) = _
    rw [List.getD_eq_getElem?_getD, h]
    rfl
  exact take_more hm
/-- one edit, from a history -/
theorem sed_hist {K : PySem.W.Frag} {Cs : List Addr} {L : Cels} {p q l : Addr} {out : DV} {ms : List DV} {ls : Str} {pp op : Int} {tn : Bool} {s : Sx} {e : Ed} (I : Ses CS CSc L p q l out ms) (hk : Kin L Cs) (hc : Cs.contains C = false) (h : Hist C ls pp op tn ms s) (ok : okSx ls pp op s) (hn : ms.length < 9000) (he : okEd ls s.1 s.2.1 e) :
    A_sed K C CS CSc CE Cs (cM K L) [.adr p, e.d] (fun d m' => d = ansE tn s e ∧ m' = cM K (cu L l (.lst (ms ++ [newM C ls pp op tn s e])))) noZ := by
  obtain ⟨ms0, pr, rfl⟩ := h
  refine ⟨L, p, q, l, out, ms0, ls, s.1, s.2.1, pp, op, tn, s.2.2, pr, e.d, ⟨I, hk, hc, ok.v, ok.a, ?_⟩, rfl, rfl, .inl ⟨e, rfl, he, rfl, rfl⟩⟩
  rw [List.length_append] at hn
  omega
/-- one that is none -/
theorem sed_bad {K : PySem.W.Frag} {Cs : List Addr} {L : Cels} {p q l : Addr} {out v : DV} {ms : List DV} {ls : Str} {pp op : Int} {tn : Bool} {s : Sx} (I : Ses CS CSc L p q l out ms) (hk : Kin L Cs) (hc : Cs.contains C = false) (h : Hist C ls pp op tn ms s) (ok : okSx ls pp op s) (hn : ms.length < 9000) (hf : fit v = true) (hv : isEd ls s.1 s.2.1 v = false) :
    A_sed K C CS CSc CE Cs (cM K L) [.adr p, v] (fun _ _ => False) fun C' gs m' => C' = CE ∧ gs = [] ∧ m' = cM K L := by
  obtain ⟨ms0, pr, rfl⟩ := h
  refine ⟨L, p, q, l, out, ms0, ls, s.1, s.2.1, pp, op, tn, s.2.2, pr, v, ⟨I, hk, hc, ok.v, ok.a, ?_⟩, rfl, rfl, .inr ⟨hf, hv, rfl, rfl⟩⟩
  rw [List.length_append] at hn
  omega
end SP

/-! Sessions: tried. -/
namespace SP
open PySem PySem.Spec PyProof.Rows L2 PD
variable {g : Gb} {C CS CSc CT CE CN CB : Addr}
def A_tex (K : PySem.W.Frag) (CS CSc CT : Addr) : Mo → List DV → (DV → Mo → Prop) → Prop := fun m ds R => ∃ (L : Cels) (t p q : Addr) (mo out d1 d2 d3 : DV), L t = some (.ins CT [("session", .adr p)]) ∧ L p = some (.ins CS [("_scope", .adr q)]) ∧ L q = some (.ins CSc [("moments", mo), ("outer", out)]) ∧ m = cM K L ∧ ds = [.adr t, d1, d2, d3] ∧ R = fun d m' => d = .non ∧ m' = cM K (cu L p (.ins CS [("_scope", out)]))
theorem ok_tex (S : Ssl g CS CSc) (T : Tl g CT) {f : Addr} {fd : FuncData} (F : Fun g.K "__exit__" "Trial.__exit__" s_Trial_exit f fd) : FnOk g.P g.w g.K g.mg g.base CX0 1 f fd ["self", "kind", "value", "trace"] (spM g.K (A_tex g.K CS CSc CT)) ∧ FnO g.P g.w g.K g.mg g.base 1 f fd ["self", "kind", "value", "trace"] (spM g.K (A_tex g.K CS CSc CT)) := by
  refine ⟨fn_okM F scTExit (fun m ds R ⟨L, t, p, q, mo, out, d1, d2, d3, _, _, _, _, e, _⟩ => by rw [e]; rfl) fun m ds R ⟨L, t, p, q, mo, out, d1, d2, d3, h1, h2, h3, em, e, eR⟩ => ?_, fn_okO F scTExit (fun m ds R ⟨L, t, p, q, mo, out, d1, d2, d3, _, _, _, _, e, _⟩ => by rw [e]; rfl) fun m ds R ⟨L, t, p, q, mo, out, d1, d2, d3, h1, h2, h3, em, e, eR⟩ => ?_⟩
  · subst em e eR
    exact body_exit S T rfl rfl h1 h2 h3 ⟨rfl, rfl⟩
  · subst em e eR
    exact body_exit S T rfl rfl h1 h2 h3 ⟨rfl, rfl⟩
abbrev trN : List Str := ["self", "edits", "edit"]
theorem scTried : FnScope trN ["self", "edits"] (defScope s_Session_tried) := ⟨rfl, rfl, rfl, by decide +kernel, rfl, by decide +kernel, by decide +kernel⟩
def A_strd (K : PySem.W.Frag) (C CS CSc CE : Addr) (Cs : List Addr) : Aw := fun m ds R Z => ∃ (L : Cels) (p q l : Addr) (out : DV) (ms : List DV) (ls : Str) (pp op : Int) (tn : Bool) (s : Sx) (xs : List DV), Ses CS CSc L p q l out ms ∧ Kin L Cs ∧ Cs.contains C = false ∧ Hist C ls pp op tn ms s ∧ okSx ls pp op s ∧ ms.length < 8000 ∧ xs.length ≤ 1000 ∧ m = cM K L ∧ ds = [.adr p, .lst xs] ∧
  ((20 < xs.length ∧ R = (fun _ _ => False) ∧ Z = fun C' gs m' => C' = CE ∧ gs = [] ∧ ∃ L', m' = cM K L' ∧ Le L L' ∧ Kin L' Cs) ∨
   (∃ v, xs = [v] ∧ fit v = true ∧ isEd ls s.1 s.2.1 v = false ∧ R = (fun _ _ => False) ∧ Z = fun C' gs m' => C' = CE ∧ gs = [] ∧ ∃ L', m' = cM K L' ∧ Le L L' ∧ Kin L' Cs) ∨
   (∃ es, xs = es.map Ed.d ∧ es.length ≤ 20 ∧ okEds ls tn s es ∧ Z = noZ ∧ R = fun d m' => d = .lst (anssOf tn s es) ∧ ∃ L', m' = cM K L' ∧ Le L L' ∧ Kin L' Cs))
/-- behind a trial, all is as it was ahead of it -/
theorem le_left {L L1 L3 : Cels} {t p q : Addr} {c : Cel} (ht : L t = none) (h1 : ∀ a, a ≠ p → ∀ x, (cu L t c) a = some x → L1 a = some x) (h3 : ∀ a, a ≠ p → ∀ x, L a = some x → L1 a = some x → L3 a = some x) (hp : L p = some (.ins CS [("_scope", .adr q)])) : Le L (cu L3 p (.ins CS [("_scope", .adr q)])) := fun a x e => by
  by_cases w : a = p
  · subst w
    rw [cu_same, ← hp]
    exact e
  · have nt : a ≠ t := fun z => by rw [z, ht] at e; cases e
    rw [cu_ne w]
    exact h3 a w x e (h1 a w x (by rw [cu_ne nt]; exact e))
theorem ok_strd (B : Bt g) (S : Ssl g CS CSc) (T : Tl g CT) (hM : ∃ t, g.mg "MOST_TRIED" = some (.int 20 t)) (XE' : Xc g CE "BadEdit") (Tr : MeW g 3 CS "trial" (A_str g.K CT)) {Cs : List Addr} (hCT : Cs.contains CT = true) (hCS : Cs.contains CS = true) (hCSc : Cs.contains CSc = true) (Se : MeW g 9 CS "edit" (A_sed g.K C CS CSc CE Cs)) (W : Wt g 3 CT (fun m ds R => A_ten g.K CS CSc CT m ds R noZ) (A_tex g.K CS CSc CT)) {f : Addr} {fd : FuncData} (F : Fun g.K "tried" "Session.tried" s_Session_tried f fd) :
    FnOk g.P g.w g.K g.mg g.base (L2.CX g.P g.w) 10 f fd ["self", "edits"] (spW g.K (A_strd g.K C CS CSc CE Cs)) := by
  refine fn_okWe F scTried (fun m ds R Z ⟨L, p, q, l, out, ms, ls, pp, op, tn, s, xs, _, _, _, _, _, _, _, _, e, _⟩ => by rw [e]; rfl) fun m ds R Z ⟨L, p, q, l, out, ms, ls, pp, op, tn, s, xs, I, hk, hc, hh, hok, hn, hx, em, e, h⟩ => ?_
  subst em e
  obtain ⟨tM, hM⟩ := hM
  refine dsse_cons (.of (dsw_if (b := decide ((20 : Int) < xs.length)) (dtm_of (DT.is (dt_w (dw_or (x := false) (y := decide ((20 : Int) < xs.length)) (DT.is (dt_not (dt_e (de_isLT B rfl (de_v 1)))) rfl) fun _ => dw_or1 (dt_gtI (de_len (ds := xs) B.len rfl (de_v 1)) (de_gl (v := .int 20) hM ⟨_, rfl⟩ fun _ => .int 20)))) (by simp))) (fun h1 => ?_) fun h1 => dssw_nil ?_))
  · have e0 : 20 < xs.length := by have := of_decide_eq_true h1; omega
    rcases h with ⟨_, rfl, rfl⟩ | ⟨v, rfl, _⟩ | ⟨es, rfl, h20, _⟩
    · exact dssw_one (dsw_raise0 XE' ⟨rfl, rfl, L, rfl, Le.rf L, hk⟩)
    · simp at e0
    · rw [List.length_map] at e0
      omega
  · have e0 : ¬ 20 < xs.length := by have := of_decide_eq_false h1; omega
    refine dsse_one (dse_with W (der_meth0 S.cS Tr.v (insAt_c I.sp (by rw [List.lookup_cons, show (("trial" : Str) == "_scope") = false by decide +kernel]; rfl)) (de_v 0) ⟨L, p, rfl, rfl, rfl, rfl⟩) (by decide) fun d m1 hR => ?_)
    obtain ⟨t, ht, rfl, rfl⟩ := hR
    have ht' : L t = none := ht
    have le0 : Le L (cu L t (.ins CT [("session", .adr p)])) := Le.new ht'
    refine ⟨t, _, _, _, rfl, rfl, cu_same, ⟨_, t, p, q, l, out, ms, I.le le0, cu_same, rfl, rfl, rfl, rfl⟩, fun d2 m2 hR2 => ?_⟩
    obtain ⟨L1, q1, l1, _, rfl, hq1, hl1, keep, kn, I1⟩ := hR2
    have npt : p ≠ t := fun z => by
      have := I.sp
      rw [z, ht'] at this
      cases this
    have t1 : L1 t = some (.ins CT [("session", .adr p)]) := keep t (Ne.symm npt) _ cu_same
    have kin1 : Kin L1 Cs := kn Cs (kin_ins hk hCT) hCS hCSc
    have nl1 : L l1 = none := le0.free hl1
    have left : ∀ {L3 : Cels}, (∀ a, a ≠ p → a ≠ l1 → L3 a = L1 a) → Le L (cu L3 p (.ins CS [("_scope", .adr q)])) := fun {L3} h3 => le_left (L1 := L1) (t := t) (c := .ins CT [("session", .adr p)]) ht' keep (fun a ha x e e1 => by
      rw [h3 a ha (fun z => by rw [z, nl1] at e; cases e)]
      exact e1) I.sp
    rcases h with ⟨h20, _⟩ | ⟨v, rfl, hf, hv, rfl, rfl⟩ | ⟨es, rfl, h20, hes, rfl, rfl⟩
    · exact absurd h20 e0
    · refine dssw_one (dsw_ret (R := fun _ _ => False) (dew_lcX (own := [("edit", 2)]) (is := [2]) (ρ1 := [.val (.adr p), .val (.lst [v]), .val v]) scTried.nd (by decide +kernel) (di_l (de_v 1)) rfl rfl (dg_n 2 scTried.nd) S.cS Se (insAt_c I1.sp (by rw [List.lookup_cons, show (("edit" : Str) == "_scope") = false by decide +kernel]; rfl)) (dem_of (de_v 0)) (dam_of (da_cons (de_v 2) da_nil)) (sed_bad I1 kin1 hc hh hok (by omega) hf hv) fun C' gs m' hF => ?_) fun d m' h => h.elim)
      obtain ⟨rfl, rfl, rfl⟩ := hF
      exact fun d1 d2 d3 => ⟨_, ⟨L1, t, p, q1, .adr l1, .adr q, d1, d2, d3, t1, I1.sp, I1.sq, rfl, rfl, rfl⟩, fun d m4 ⟨e1, e2⟩ => ⟨e1, rfl, rfl, _, e2, left fun a _ _ => rfl, kin_ins kin1 hCS⟩⟩
    · have mm0 : cu L1 l1 (.lst (ms ++ (momsOf C ls pp op tn s es).take 0)) = L1 := by
        rw [List.take_zero, List.append_nil]
        exact cu_id I1.sl
      refine dssw_one (dsw_ret (DEW.ofm (d := .lst (anssOf tn s es)) (m' := cM g.K (cu L1 l1 (.lst (ms ++ (momsOf C ls pp op tn s es).take es.length)))) (dem_lcE (ds := es.map Ed.d) (ds' := anssOf tn s es) (own := [("edit", 2)]) (is := [2]) (fun i => cu L1 l1 (.lst (ms ++ (momsOf C ls pp op tn s es).take i))) (fun i => ansE tn (stAt tn s es i) (es.getD i (.aim ""))) mm0 (by rw [List.length_map]) (by rw [List.length_map]; rfl) rfl scTried.nd (by decide +kernel) (di_l (de_v 1)) (by rw [List.length_map]; omega) (by decide) rfl (fun d => [.val (.adr p), .val (.lst (es.map Ed.d)), .val d]) (fun d hd => rfl)
        (fun d hd => dg_n 2 scTried.nd) (fun i a _ e => by
          by_cases w : a = l1
          · rw [w, cu_same] at e; cases e
          · rw [cu_ne w] at e ⊢; exact e) (fun i d hd => by
          rw [List.getElem?_map] at hd
          cases hg : es[i]? with
          | none => rw [hg] at hd; cases hd
          | some e =>
            rw [hg] at hd
            cases hd
            have hi := (List.getElem?_eq_some_iff.mp hg).1
            refine DER.one (DER.mono (der_meth S.cS Se.v (insAt_c (I1.put (ms' := ms ++ (momsOf C ls pp op tn s es).take i)).sp (by rw [List.lookup_cons, show (("edit" : Str) == "_scope") = false by decide +kernel]; rfl)) (de_v 0) (da_cons (de_v 2) da_nil) (sed_hist I1.put (kin_lst kin1) hc (hist_at hh i (by omega)) (okSx_at i hok hes) (by rw [List.length_append, List.length_take, momsOf_len]; omega) (okEds_get hes hg))) fun d' m' h' => ?_)
            obtain ⟨e1, e2⟩ := h'
            refine ⟨by rw [e1, List.getD_eq_getElem?_getD, hg]; rfl, ?_⟩
            rw [e2, cu_cu, momsOf_snoc hg, List.append_assoc]))) fun d m' h => ?_)
      obtain ⟨rfl, rfl⟩ := h
      have In := I1.put (ms' := ms ++ (momsOf C ls pp op tn s es).take es.length)
      refine ⟨_, ⟨_, t, p, q1, .adr l1, .adr q, .non, .non, .non, ?_, In.sp, In.sq, rfl, rfl, rfl⟩, fun d' m4 ⟨e1, e2⟩ => ⟨rfl, _, e2, left fun a _ w => cu_ne w, kin_ins (kin_lst kin1) hCS⟩⟩
      rw [cu_ne (fun z => by rw [← z, cu_same] at hl1; cases hl1)]
      exact t1
end SP

/-! _law_text, _law_left, _law_moves of the sessions' law. -/
namespace SP
open PySem PySem.Spec PyProof.Rows L2 PD
variable {g : Gb} {C : Addr}
theorem scLTx : FnScope ["_law_state_here", "_law_block"] ["_law_state_here"] (defScope s__law_text) := ⟨rfl, rfl, rfl, by decide +kernel, rfl, by decide +kernel, by decide +kernel⟩
theorem ok_ltx {f : Addr} {fd : FuncData} (F : Fun g.K "_law_text" "_law_text" s__law_text f fd) : FnOk g.P g.w g.K g.mg g.base CX0 1 f fd ["_law_state_here"] (spR g.K R_stext) := by
  refine fn_ok F scLTx (fun ds d ⟨ps, od, _, e, _⟩ => by rw [e]; rfl) fun ds d ⟨ps, od, h, e, ed⟩ => ?_
  subst e ed
  refine dss_one (ds_ret (de_join (sep := ⟨#[]⟩) (ys := od.map (oldP ps)) (da := .lst ((od.map (oldP ps)).map DV.str)) de_str (DE.is (dl_rL (own := [("_law_block", 1)]) scLTx.nd (by decide +kernel) (rL.ev (is := [1]) (di_t (ds := odD od) (de_ixT (d := .tup (odD od)) rfl (de_v 0) de_int)) ?_ (by decide)
    (fun d => [.val (stD ps od), .val d]) (fun _ => true) (fun d => match d with | .int i => .str (oldP ps i.toNat) | _ => .non) (fun d hd => dg_n 1 scLTx.nd) (fun d hd => dts_nil) (fun d hd _ => ?_))).de ?_) rfl ?_) ?_)
  · rw [odD_len]
    exact Nat.le_trans h.hod (by decide)
  · unfold odD at hd
    rw [List.mem_map] at hd
    obtain ⟨b, hb, rfl⟩ := hd
    exact de_ixT (i := (b : Int)) (xs := psD ps) (atI_nat (psD_get (get_piece (h.hb b hb)))) (de_ixT (d := .tup (psD ps)) rfl (de_v 0) de_int) (de_v 1)
  · rw [filt]
    unfold odD
    rw [List.map_map, List.map_map]
    rfl
  · have h2 : ((od.map (oldP ps)).map (·.length)).sum ≤ ((od.map (oldP ps)).map (·.length)).length * 4 := sum_le (m := 4) fun x hx => by
      rw [List.map_map, List.mem_map] at hx
      obtain ⟨b, hb, rfl⟩ := hx
      exact h.hp _ (oldP_mem (h.hb b hb))
    rw [List.length_map, List.length_map] at h2
    have h3 := h.hod
    simp only [List.length_map]
    show _ + _ * 0 ≤ _
    omega
  · rw [join_cat]
    rfl
/-! ### what a torn write leaves -/
def leftsOf (ps : List Str) (od : List Nat) (w : Wr) (tn : Bool) : List (List Str × List Nat) := (if tn = true then tornOf ps od w else [(ps, od)]) ++ [(afterP ps w, afterO od w)]
theorem lefts_read (ps : List Str) (od : List Nat) (w : Wr) (tn : Bool) : (leftsOf ps od w tn).map (fun s => textOf s.1 s.2) = readingsOf ps od w tn := by
  unfold leftsOf readingsOf
  cases tn
  · rfl
  · rw [if_pos rfl, if_pos rfl, List.map_append]
    rfl
theorem lefts_bd {ls : Str} {ps : List Str} {od : List Nat} {w : Wr} {tn : Bool} (v : VS ls ps od) (h : VW ls ps.length w) : ∀ s ∈ leftsOf ps od w tn, Bd s.1 s.2 := fun s hs => by
  unfold leftsOf at hs
  rcases List.mem_append.mp hs with z | z
  · cases tn
    · rw [List.mem_singleton.mp z]; exact v.bd
    · exact tornOf_bd v h s z
  · rw [List.mem_singleton.mp z]
    exact (v.after h).bd
theorem lefts_len {ls : Str} {ps : List Str} {od : List Nat} {w : Wr} {tn : Bool} (h : VW ls ps.length w) : (leftsOf ps od w tn).length ≤ 4 := by
  have := readingsOf_len (od := od) (tn := tn) h
  rw [← lefts_read, List.length_map] at this
  exact this
def stP (s : List Str × List Nat) : DV := stD s.1 s.2
abbrev llN : List Str := ["_law_state_here", "_law_write", "_law_can_tear", "_law_old", "_law_new", "_law_found", "_law_rows", "_law_count", "_law_one"]
theorem scLLe : FnScope llN ["_law_state_here", "_law_write", "_law_can_tear"] (defScope s__law_left) := ⟨rfl, rfl, rfl, by decide +kernel, rfl, by decide +kernel, by decide +kernel⟩
def R_lleft : List DV → DV → Prop := fun ds d => ∃ ls ps od w tn, VS ls ps od ∧ VW ls ps.length w ∧ ds = [stD ps od, Wr.d w, .bl tn] ∧ d = .lst ((leftsOf ps od w tn).map stP)
theorem ok_lleft (B : Bt g) (Af : Fn g 1 "_law_after" R_safter) {f : Addr} {fd : FuncData} (F : Fun g.K "_law_left" "_law_left" s__law_left f fd) : FnOk g.P g.w g.K g.mg g.base CX0 2 f fd ["_law_state_here", "_law_write", "_law_can_tear"] (spR g.K R_lleft) := by
  refine fn_ok F scLLe (fun ds d ⟨_, _, _, _, _, _, _, e, _⟩ => by rw [e]; rfl) fun ds d ⟨ls, ps, od, w, tn, v, h, e, ed⟩ => ?_
  subst e ed
  have h4 := v.hps
  cases w with
  | piece b p =>
    have hb : b < ps.length := h.1
    have hp2 := wordOk_len h.2
    have ho2 := wordOk_len (v.hp _ (oldP_mem hb))
    have e0 : Wr.d (.piece b p) = .tup [.str "piece", .int b, .str p] := rfl
    refine dss_cons (ds_set 3 scLLe.nd (d := .str (oldP ps b)) (de_if (x := false) (DT.is (dt_eqS (de_ixT (xs := [.str "piece", .int b, .str p]) (i := 0) (d := .str "piece") rfl (de_v 1) de_int) de_str) (by decide +kernel)) (fun z => by cases z) fun _ => de_ixT (i := (b : Int)) (xs := psD ps) (atI_nat (psD_get (get_piece hb))) (de_ixT (d := .tup (psD ps)) rfl (de_v 0) de_int) (de_ixT (xs := [.str "piece", .int b, .str p]) (i := 1) (d := .int b) rfl (de_v 1) de_int)) ?_)
    refine dss_cons (ds_asgS (d := .tup [.str p, .lst []]) (de_tup (da_cons (de_ixT (xs := [.str "piece", .int b, .str p]) (i := -1) (d := .str p) rfl (de_v 1) (de_neg de_int)) (da_cons (dl_lst da_nil).de da_nil))) (dg_tup (dgs_cons (dg_n 4 scLLe.nd) (dgs_cons (dg_n 5 scLLe.nd) dgs_nil))) ?_)
    have rest : ∀ L : List Str, L.length ≤ 3 → (L.map fun z => (ps.set b z, od)) = (if tn = true then tornOf ps od (.piece b p) else []) → DSs g ⟨1, llN, defScope s__law_left, fun _ => true, true, none⟩ ((defBody s__law_left).drop 3) [.val (stD ps od), .val (Wr.d (.piece b p)), .val (.bl tn), .val (.str (oldP ps b)), .val (.str p), .val (.lst (psD L)), .un, .un, .un] { nx := fun _ => DV.lst ((leftsOf ps od (.piece b p) tn).map stP) = .non, rt := fun r => r = DV.lst ((leftsOf ps od (.piece b p) tn).map stP) } := by
      intro L hL eL
      refine dss_cons (ds_lcO (own := [("_law_one", 8)]) 6 scLLe.nd (by decide +kernel) (EvL.is (ds' := (L ++ [p]).map fun z => stD (ps.set b z) od) (rL.ev (is := [8]) (di_l (ds := psD (L ++ [p])) (DE.is (de_catL (i := psD L) (j := [.str p]) ?_ (de_v 5) (dl_lst (da_cons (de_v 4) da_nil)).de) ?_)) ?_ (by decide)
        (fun d => [.val (stD ps od), .val (Wr.d (.piece b p)), .val (.bl tn), .val (.str (oldP ps b)), .val (.str p), .val (.lst (psD L)), .un, .un, .val d]) (fun _ => true) (fun d => match d with | .str z => stD (ps.set b z) od | _ => .non) (fun d hd => dg_n 8 scLLe.nd) (fun d hd => dts_nil) (fun d hd _ => ?_)) ?_) (dss_freeze 6 rfl ?_))
      · rw [psD_len, List.length_singleton]; omega
      · unfold psD; rw [List.map_append]; rfl
      · rw [psD_len, List.length_append, List.length_singleton]; omega
      · unfold psD at hd
        rw [List.mem_map] at hd
        obtain ⟨z, _, rfl⟩ := hd
        exact de_call Af (da_cons (de_v 0) (da_cons (DE.is (de_catT (i := [.str "piece", .int b]) (j := [.str z]) (show 2 + 1 ≤ 100000 by decide) (DE.is (de_slT (xs := [.str "piece", .int b, .str p]) (i := none) (j := some (-1)) (de_v 1) dp_none (dp_some (de_neg de_int))) rfl) (de_tup (da_cons (de_v 8) da_nil))) rfl) da_nil)) ⟨ps, od, .piece b z, hb, h4, rfl, rfl⟩
      · rw [filt]
        unfold psD
        rw [List.map_map]
        rfl
      refine dss_one (ds_ret (d := .lst ((leftsOf ps od (.piece b p) tn).map stP)) (de_if (x := tn) (dt_e (de_v 2)) (fun ht => ?_) fun ht => ?_) rfl)
      · subst ht
        refine DE.is (de_v 6) ?_
        rw [if_pos rfl] at eL
        unfold leftsOf
        rw [if_pos rfl, ← eL, List.map_append, List.map_append, List.map_map]
        rfl
      · subst ht
        rw [if_neg (by decide)] at eL
        have : L = [] := List.map_eq_nil_iff.mp eL
        subst this
        exact DE.is (de_catL (i := [stD ps od]) (j := [stD (ps.set b p) od]) (show 1 + 1 ≤ 100000 by decide) (dl_lst (da_cons (de_v 0) da_nil)).de (de_v 6)) rfl
    cases tn with
    | false => exact dss_cons (ds_if (x := false) (dt_e (de_v 2)) (fun z => by cases z) fun _ => dss_nil (rest [] (by decide) rfl))
    | true =>
      refine dss_cons (ds_if (x := true) (dt_e (de_v 2)) (fun _ => dss_one (ds_lcO (own := [("_law_count", 7)]) 5 scLLe.nd (by decide +kernel) (EvL.is (ds' := psD ((List.range p.length).map fun n => mixS p (oldP ps b) n)) (rL.ev (is := [7]) (di_r (n := p.length) B.range (by omega) (de_lenS B.len (by omega) (de_v 4))) (by rw [rangeD_len]; omega) (by decide)
        (fun d => [.val (stD ps od), .val (Wr.d (.piece b p)), .val (.bl true), .val (.str (oldP ps b)), .val (.str p), .val (.lst []), .un, .val d, .un]) (fun _ => true) (fun d => match d with | .int i => .str (mixS p (oldP ps b) i.toNat) | _ => .non) (fun d hd => dg_n 7 scLLe.nd) (fun d hd => dts_nil) (fun d hd _ => ?_)) ?_) (dss_freeze 5 rfl (rest ((List.range p.length).map fun n => mixS p (oldP ps b) n) ?_ ?_)))) fun z => by cases z)
      · unfold rangeD at hd
        rw [List.mem_map] at hd
        obtain ⟨n, hn, rfl⟩ := hd
        rw [List.mem_range] at hn
        rw [Int.zero_add]
        have l1 := takeS_len p n
        have l2 := dropS_len (oldP ps b) n
        refine DE.is (de_addS (i := takeS p n) (j := dropS (oldP ps b) n) (by omega) (DE.is (de_slS (z := p) (by omega) (de_v 4) dp_none (dp_some (de_v 7))) (by rw [cutS_to (by omega)])) (DE.is (de_slS (z := oldP ps b) (by omega) (de_v 3) (dp_some (de_v 7)) dp_none) (by rw [cutS_from]))) ?_
        show DV.str (mixS p (oldP ps b) n) = DV.str (mixS p (oldP ps b) ((n : Int)).toNat)
        rw [Int.toNat_natCast]
      · rw [filt]
        unfold rangeD psD
        rw [List.map_map, List.map_map]
        refine List.map_congr_left fun n _ => ?_
        show DV.str (mixS p (oldP ps b) ((0 : Int) + (n : Int)).toNat) = DV.str (mixS p (oldP ps b) n)
        rw [Int.zero_add, Int.toNat_natCast]
      · rw [List.length_map, List.length_range]; omega
      · rw [if_pos rfl, List.map_map]
        rfl
  | order o =>
    have ho3 : o.length ≤ 3 := h.1
    have hod := v.hod
    refine dss_cons (ds_set 3 scLLe.nd (d := .tup (odD od)) (de_if (x := true) (DT.is (dt_eqS (de_ixT (xs := [.str "order", .tup (odD o)]) (i := 0) (d := .str "order") rfl (de_v 1) de_int) de_str) (by decide +kernel)) (fun _ => de_ixT (d := .tup (odD od)) rfl (de_v 0) de_int) fun z => by cases z) ?_)
    refine dss_cons (ds_asgS (d := .tup [.tup (odD o), .lst []]) (de_tup (da_cons (de_ixT (xs := [.str "order", .tup (odD o)]) (i := -1) (d := .tup (odD o)) rfl (de_v 1) (de_neg de_int)) (da_cons (dl_lst da_nil).de da_nil))) (dg_tup (dgs_cons (dg_n 4 scLLe.nd) (dgs_cons (dg_n 5 scLLe.nd) dgs_nil))) ?_)
    have rest : ∀ L : List (List Nat), L.length ≤ 3 → (L.map fun z => (ps, z)) = (if tn = true then tornOf ps od (.order o) else []) → DSs g ⟨1, llN, defScope s__law_left, fun _ => true, true, none⟩ ((defBody s__law_left).drop 3) [.val (stD ps od), .val (Wr.d (.order o)), .val (.bl tn), .val (.tup (odD od)), .val (.tup (odD o)), .val (.lst (L.map oD)), .un, .un, .un] { nx := fun _ => DV.lst ((leftsOf ps od (.order o) tn).map stP) = .non, rt := fun r => r = DV.lst ((leftsOf ps od (.order o) tn).map stP) } := by
      intro L hL eL
      refine dss_cons (ds_lcO (own := [("_law_one", 8)]) 6 scLLe.nd (by decide +kernel) (EvL.is (ds' := (L ++ [o]).map fun z => stD ps z) (rL.ev (is := [8]) (di_l (ds := (L ++ [o]).map oD) (DE.is (de_catL (i := L.map oD) (j := [oD o]) ?_ (de_v 5) (dl_lst (da_cons (de_v 4) da_nil)).de) ?_)) ?_ (by decide)
        (fun d => [.val (stD ps od), .val (Wr.d (.order o)), .val (.bl tn), .val (.tup (odD od)), .val (.tup (odD o)), .val (.lst (L.map oD)), .un, .un, .val d]) (fun _ => true) (fun d => .tup [.tup (psD ps), d]) (fun d hd => dg_n 8 scLLe.nd) (fun d hd => dts_nil) (fun d hd _ => ?_)) ?_) (dss_freeze 6 rfl ?_))
      · rw [List.length_map, List.length_singleton]; omega
      · rw [List.map_append]; rfl
      · rw [List.length_map, List.length_append, List.length_singleton]; omega
      · rw [List.mem_map] at hd
        obtain ⟨z, _, rfl⟩ := hd
        exact de_call Af (da_cons (de_v 0) (da_cons (DE.is (de_catT (i := [.str "order"]) (j := [oD z]) (show 1 + 1 ≤ 100000 by decide) (DE.is (de_slT (xs := [.str "order", .tup (odD o)]) (i := none) (j := some (-1)) (de_v 1) dp_none (dp_some (de_neg de_int))) rfl) (de_tup (da_cons (de_v 8) da_nil))) rfl) da_nil)) ⟨ps, od, .order z, trivial, h4, rfl, rfl⟩
      · rw [filt, List.map_map]
        rfl
      refine dss_one (ds_ret (d := .lst ((leftsOf ps od (.order o) tn).map stP)) (de_if (x := tn) (dt_e (de_v 2)) (fun ht => ?_) fun ht => ?_) rfl)
      · subst ht
        refine DE.is (de_v 6) ?_
        rw [if_pos rfl] at eL
        unfold leftsOf
        rw [if_pos rfl, ← eL, List.map_append, List.map_append, List.map_map]
        rfl
      · subst ht
        rw [if_neg (by decide)] at eL
        have : L = [] := List.map_eq_nil_iff.mp eL
        subst this
        exact DE.is (de_catL (i := [stD ps od]) (j := [stD ps o]) (show 1 + 1 ≤ 100000 by decide) (dl_lst (da_cons (de_v 0) da_nil)).de (de_v 6)) rfl
    cases tn with
    | false => exact dss_cons (ds_if (x := false) (dt_e (de_v 2)) (fun z => by cases z) fun _ => dss_nil (rest [] (by decide) rfl))
    | true =>
      refine dss_cons (ds_if (x := true) (dt_e (de_v 2)) (fun _ => dss_one (ds_lcO (own := [("_law_count", 7)]) 5 scLLe.nd (by decide +kernel) (EvL.is (ds' := ((List.range o.length).map fun n => mixO o od n).map oD) (rL.ev (is := [7]) (di_r (n := (odD o).length) B.range (by rw [odD_len]; omega) (de_len B.len rfl (de_v 4))) (by rw [rangeD_len, odD_len]; omega) (by decide)
        (fun d => [.val (stD ps od), .val (Wr.d (.order o)), .val (.bl true), .val (.tup (odD od)), .val (.tup (odD o)), .val (.lst []), .un, .val d, .un]) (fun _ => true) (fun d => match d with | .int i => .tup (odD (mixO o od i.toNat)) | _ => .non) (fun d hd => dg_n 7 scLLe.nd) (fun d hd => dts_nil) (fun d hd _ => ?_)) ?_) (dss_freeze 5 rfl (rest ((List.range o.length).map fun n => mixO o od n) ?_ ?_)))) fun z => by cases z)
      · unfold rangeD at hd
        rw [List.mem_map] at hd
        obtain ⟨n, hn, rfl⟩ := hd
        rw [List.mem_range, odD_len] at hn
        rw [Int.zero_add]
        have e1 := cutG_to (xs := odD o) (k := n) (by rw [odD_len]; omega)
        have e2 := cutG_from (xs := odD od) (k := n)
        refine DE.is (de_catT ?_ (de_slT (de_v 4) dp_none (dp_some (de_v 7))) (de_slT (de_v 3) (dp_some (de_v 7)) dp_none)) (congrArg DV.tup ?_)
        · rw [e1, e2, List.length_take, List.length_drop, odD_len, odD_len]
          omega
        · show _ = odD (mixO o od ((n : Int)).toNat)
          rw [e1, e2, odD_cut, Int.toNat_natCast]
      · rw [filt]
        unfold rangeD
        rw [List.map_map, List.map_map, odD_len]
        refine List.map_congr_left fun n _ => ?_
        show DV.tup (odD (mixO o od ((0 : Int) + (n : Int)).toNat)) = DV.tup (odD (mixO o od n))
        rw [Int.zero_add, Int.toNat_natCast]
      · rw [List.length_map, List.length_range]; omega
      · rw [if_pos rfl, List.map_map]
        rfl
end SP

/-! x, y, z = (a, b, [..]); x, y = ([..], b). -/
namespace PD
open PySem PySem.Spec PyProof.Rows L2
section
variable {g : Gb} {l : Lc} {ρ : Rho} {a b c : Expr} {d1 d2 : DV} {ds es : List DV} {x y z : Str} {px py pz pt pt2 pos : Pos} {kt k2 : Nat} {E : Po}
theorem ds_par3L (i j k : Nat) (nd : l.N.Nodup) (no : noOwn ρ = true) (ha : DE g l a ρ d1) (hb : DE g l b ρ d2) (hc : DL g l c ρ es) (q : E.nx (((ρ.set i (.val d1)).set j (.val d2)).set k (.own es))) (hi : l.N[i]? = some x := by rfl) (hj : l.N[j]? = some y := by rfl) (hk : l.N[k]? = some z := by rfl) (hij : i ≠ j := by decide) (hik : i ≠ k := by decide) (hjk : j ≠ k := by decide)
    (hx : l.sc.names.lookup x = some .local := by rfl) (hy : l.sc.names.lookup y = some .local := by rfl) (hz : l.sc.names.lookup z = some .local := by rfl) (hs : ∀ env, starEach [a, b, c] env = (false, eval a env) :: starEach [b, c] env := by intro _; rfl) (hs2 : ∀ env, starEach [b, c] env = (false, eval b env) :: starEach [c] env := by intro _; rfl) (hs3 : ∀ env, starEach [c] env = (false, eval c env) :: starEach [] env := by intro _; rfl)
    (hw : ∀ env, env.scope = l.sc → swappedStores [.Tuple [.Name x px, .Name y py, .Name z pz] kt pt] (.Tuple [a, b, c] k2 pt2) env = pure (some [x, y, z]) := by intro env h; cases env; cases h; rfl)
    (hsw : ∀ env, swapsWithSole [.Tuple [.Name x px, .Name y py, .Name z pz] kt pt] (.Tuple [a, b, c] k2 pt2) pos.line env = pure false := by intro _; rfl) (hcl : l.cb = true := by rfl) : DS g l (.Assign [.Tuple [.Name x px, .Name y py, .Name z pz] kt pt] (.Tuple [a, b, c] k2 pt2) pos) ρ E :=
  DS.by (tPar3 i j k (tCons (UE g l a) (tCons (UE g l b) (tCons (UE g l c) tNil)))) (fun X o => ps_par3 (o.calm hcl) (by rw [o.N]; exact nd) (by rw [o.N]; exact hi) (by rw [o.N]; exact hj) (by rw [o.N]; exact hk) hij hik hjk (by rw [o.sc]; exact hx) (by rw [o.sc]; exact hy) (by rw [o.sc]; exact hz) (pa_cons (UE.pe o a) (pa_cons (UE.pe o b) (pa_cons (UE.pe o c) pa_nil (hs3 _)) (hs2 _)) (hs _)) (hw _ o.sc) (hsw _))
    fun S0 H0 B σ S H D g0 bb n o => ha H0 σ S H g0.sub n _ fun v1 S1 H1 g1 r1 => hb H0 σ S1 H1 g1.sub (n.go g1) _ fun v2 S2 H2 g2 r2 => hc H0 σ S2 H2 g2.sub ((n.go g1).go g2) _ fun p3 vs3 S3 H3 hp3 g3 nS3 hh3 rr3 => by
      refine ⟨v1, v2, .ref p3, rfl, ?_⟩
      have n5 := ((((n.go g1).go g2).go g3).set (i := i) ((r1.up g2.s).up g3.s)).set (i := j) (r2.up g3.s)
      refine o.nx _ _ S3 H3 q (((g0.tr g1).tr g2).tr g3) (bb.tr (g1.s.tr (g2.s.tr g3.s))) (n5.setOwn (i := k) (g0.h.free (g1.h.free (g2.h.free hp3))) nS3 hh3 rr3 fun m hm e hes w => ?_)
      rcases set_get hes with ⟨_, w⟩ | ⟨_, hes⟩
      · cases w
      rcases set_get hes with ⟨_, w⟩ | ⟨_, hes⟩
      · cases w
      exact absurd (noOwn_get no hes) (by simp [EV.isOwn])
theorem ds_parO (i j : Nat) (nd : l.N.Nodup) (no : noOwn ρ = true) (ha : DL g l a ρ es) (hb : DE g l b ρ d2) (q : E.nx ((ρ.set j (.val d2)).set i (.own es))) (hi : l.N[i]? = some x := by rfl) (hj : l.N[j]? = some y := by rfl) (hij : i ≠ j := by decide)
    (hx : l.sc.names.lookup x = some .local := by rfl) (hy : l.sc.names.lookup y = some .local := by rfl) (hs : ∀ env, starEach [a, b] env = (false, eval a env) :: starEach [b] env := by intro _; rfl) (hs2 : ∀ env, starEach [b] env = (false, eval b env) :: starEach [] env := by intro _; rfl)
    (hw : ∀ env, env.scope = l.sc → swappedStores [.Tuple [.Name x px, .Name y py] kt pt] (.Tuple [a, b] k2 pt2) env = pure (some [x, y]) := by intro env h; cases env; cases h; rfl)
    (hsw : ∀ env, swapsWithSole [.Tuple [.Name x px, .Name y py] kt pt] (.Tuple [a, b] k2 pt2) pos.line env = pure false := by intro _; rfl) (hcl : l.cb = true := by rfl) : DS g l (.Assign [.Tuple [.Name x px, .Name y py] kt pt] (.Tuple [a, b] k2 pt2) pos) ρ E :=
  DS.by (tPar i j (tCons (UE g l a) (tCons (UE g l b) tNil))) (fun X o => ps_par (o.calm hcl) (by rw [o.N]; exact nd) (by rw [o.N]; exact hi) (by rw [o.N]; exact hj) hij (by rw [o.sc]; exact hx) (by rw [o.sc]; exact hy) (pa_cons (UE.pe o a) (pa_cons (UE.pe o b) pa_nil (hs2 _)) (hs _)) (hw _ o.sc) (hsw _))
    fun S0 H0 B σ S H D g0 bb n o => ha H0 σ S H g0.sub n _ fun p vs S1 H1 hp g1 nS hh rr => hb H0 σ S1 H1 g1.sub (n.go g1) _ fun v2 S2 H2 g2 r2 => by
      refine ⟨.ref p, v2, rfl, ?_⟩
      rw [List.set_comm _ _ hij]
      refine o.nx _ _ S2 H2 q ((g0.tr g1).tr g2) (bb.tr (g1.s.tr g2.s)) ((((n.go g1).go g2).set r2).setOwn (g0.h.free hp) (g2.off nS hh) (g2.h _ _ hh) (rr.up g2.s) fun m hm e hes w => ?_)
      rcases set_get hes with ⟨_, w⟩ | ⟨_, hes⟩
      · cases w
      exact absurd (noOwn_get no hes) (by simp [EV.isOwn])
end
end PD

/-! _law_moves, _law_edit, _law_done. -/
namespace SP
open PySem PySem.Spec PyProof.Rows L2 PD
variable {g : Gb} {C : Addr}
theorem flat_ps (T : List Str) : (psD T).all DV.flat = true := by
  unfold psD
  rw [List.all_map, List.all_eq_true]
  exact fun _ _ => rfl
def okMv (T : List Str) (ps : List Str) (od : List Nat) (tn : Bool) (w : Wr) : Bool := (readingsOf ps od w tn).all fun r => inD (.str r) (psD T)
def mvsOf (T : List Str) (ps : List Str) (od : List Nat) (tn : Bool) : List Wr := (writesOf "ab" ps od).filter (okMv T ps od tn)
def lmvD (ps : List Str) (od : List Nat) (w : Wr) : DV := .tup [w.d, stD (afterP ps w) (afterO od w)]
/-- all([_law_text(_law_one) in texts for _law_one in _law_left(..)]) -/
theorem okMv_lefts {T : List Str} {ps : List Str} {od : List Nat} {tn : Bool} {w : Wr} : ((leftsOf ps od w tn).map fun s => inD (.str (textOf s.1 s.2)) (psD T)).all id = okMv T ps od tn w := by
  unfold okMv
  rw [← lefts_read, List.all_map, List.all_map]
  rfl
def leftT (T : List Str) : DV → DV
  | .tup [.tup a, .tup b] => .bl (inD (.str (textOf (a.map fun x => match x with | .str z => z | _ => ⟨#[]⟩) (b.map fun x => match x with | .int i => i.toNat | _ => 0))) (psD T))
  | _ => .non
theorem leftT_st {T : List Str} (s : List Str × List Nat) : leftT T (stP s) = .bl (inD (.str (textOf s.1 s.2)) (psD T)) := by
  show DV.bl (inD (.str (textOf ((psD s.1).map _) ((odD s.2).map _))) (psD T)) = _
  unfold odD
  rw [show (psD s.1).map (fun x => match x with | .str z => z | _ => (⟨#[]⟩ : Str)) = s.1 by
    unfold psD
    rw [List.map_map]
    exact (List.map_congr_left fun x _ => rfl).trans (List.map_id _), List.map_map, show s.2.map ((fun x : DV => match x with | .int i => i.toNat | _ => 0) ∘ fun (b : Nat) => DV.int (b : Int)) = s.2 from (List.map_congr_left fun x _ => Int.toNat_natCast x).trans (List.map_id _)]
abbrev lmN : List Str := ["_law_file_here", "_law_state_here", "_law_texts", "_law_found", "_law_write", "_law_one"]
theorem scLMv : FnScope lmN ["_law_file_here", "_law_state_here", "_law_texts"] (defScope s__law_moves) := ⟨rfl, rfl, rfl, by decide +kernel, rfl, by decide +kernel, by decide +kernel⟩
def R_lmoves (C : Addr) : List DV → DV → Prop := fun ds d => ∃ ps0 od0 pp op tn ps od T, VS "ab" ps od ∧ ds = [fileD C "ab" ps0 od0 pp op tn, stD ps od, .tup (psD T)] ∧ d = .lst ((mvsOf T ps od tn).map (lmvD ps od))
theorem ok_lmoves (B : Bt g) (L : Fl g C) (P : Fp g C) (Te : Fn g 1 "_law_text" R_stext) (Le : Fn g 2 "_law_left" R_lleft) (Ws : Fn g 1 "_law_writes" R_lwrs) (Af : Fn g 1 "_law_after" R_safter) {f : Addr} {fd : FuncData} (F : Fun g.K "_law_moves" "_law_moves" s__law_moves f fd) : FnOk g.P g.w g.K g.mg g.base CX0 3 f fd ["_law_file_here", "_law_state_here", "_law_texts"] (spR g.K (R_lmoves C)) := by
  refine fn_ok F scLMv (fun ds d ⟨_, _, _, _, _, _, _, _, _, e, _⟩ => by rw [e]; rfl) fun ds d ⟨ps0, od0, pp, op, tn, ps, od, T, v, e, ed⟩ => ?_
  subst e ed
  have wl := writes_len v
  refine dss_cons (ds_setL 3 scLMv.nd (dl_lst da_nil) ?_)
  refine dss_cons (ds_for (is := [4]) (di_l (ds := (writesOf "ab" ps od).map Wr.d) (de_call Ws (da_cons (de_v 0) (da_cons (de_v 1) da_nil)) ⟨_, ps, od, v, rfl, rfl⟩))
    (fun i ρ => ∃ x4 x5 : EV, i ≤ (writesOf "ab" ps od).length ∧ x4.isOwn = false ∧ x5.isOwn = false ∧ ρ = [.val (fileD C "ab" ps0 od0 pp op tn), .val (stD ps od), .val (.tup (psD T)), .own ((((writesOf "ab" ps od).take i).filter (okMv T ps od tn)).map (lmvD ps od)), x4, x5]) ⟨.un, .un, Nat.zero_le _, rfl, rfl, rfl⟩ ?_ ?_)
  · rintro i d ρ hd ⟨x4, x5, hi, n4, n5, rfl⟩
    rw [List.getElem?_map] at hd
    obtain ⟨w, hw, rfl⟩ := Option.map_eq_some_iff.mp hd
    have hil := (List.getElem?_eq_some_iff.mp hw).1
    have wok := writes_ok v w (List.mem_of_getElem? hw)
    have tk : (writesOf "ab" ps od).take (i + 1) = (writesOf "ab" ps od).take i ++ [w] := take_more hw
    refine ⟨_, dg_n 4 scLMv.nd, ?_⟩
    refine dss_one (ds_if (x := okMv T ps od tn w) (DT.is (dt_e (de_all (bs := (leftsOf ps od w tn).map fun s => inD (.str (textOf s.1 s.2)) (psD T)) B.all (DE.is (dl_rL (own := [("_law_one", 5)]) scLMv.nd (by decide +kernel) (rL.ev (is := [5]) (ds := (leftsOf ps od w tn).map stP) (di_l (de_call Le (da_cons (de_v 1) (da_cons (de_v 4) (da_cons (de_tn L P (de_v 0)) da_nil))) ⟨"ab", ps, od, w, tn, v, wok.1, rfl, rfl⟩)) ?_ (by decide)
      (fun d => [.val (fileD C "ab" ps0 od0 pp op tn), .val (stD ps od), .val (.tup (psD T)), .own ((((writesOf "ab" ps od).take i).filter (okMv T ps od tn)).map (lmvD ps od)), .val w.d, .val d]) (fun _ => true) (leftT T) (fun d hd => dg_n 5 scLMv.nd) (fun d hd => dts_nil) (fun d hd _ => ?_))).de ?_))) okMv_lefts) (fun h => ?_) fun h => ?_)
    · rw [List.length_map]
      exact Nat.le_trans (lefts_len wok.1) (by decide)
    · rw [List.mem_map] at hd
      obtain ⟨s, hs, rfl⟩ := hd
      exact DE.is (de_in (ds := psD T) rfl rfl (flat_ps T) (de_call Te (da_cons (de_v 5) da_nil) ⟨s.1, s.2, lefts_bd v wok.1 s hs, rfl, rfl⟩) (de_v 2)) (leftT_st s).symm
    · rw [filt, List.map_map, List.map_map]
      exact congrArg DV.lst (List.map_congr_left fun s _ => leftT_st s)
    · refine dss_one (ds_append 3 rfl (de_tup (da_cons (de_v 4) (da_cons (de_call Af (da_cons (de_v 1) (da_cons (de_v 4) da_nil)) ⟨ps, od, w, wok.1.ok, v.hps, rfl, rfl⟩) da_nil))) ?_ ⟨.val w.d, x5, hil, rfl, n5, ?_⟩)
      · rw [List.length_map]
        have := List.length_filter_le (okMv T ps od tn) ((writesOf "ab" ps od).take i)
        have := List.length_take_le i (writesOf "ab" ps od)
        omega
      · rw [tk, List.filter_append, List.filter_cons, if_pos h, List.filter_nil, List.map_append]
        rfl
    · exact dss_nil ⟨.val w.d, x5, hil, rfl, n5, by rw [tk, List.filter_append, List.filter_cons, if_neg (by rw [h]; decide), List.filter_nil, List.append_nil]; rfl⟩
  · rintro ρ ⟨x4, x5, _, _, _, rfl⟩
    rw [List.length_map, List.take_length]
    exact dss_freeze 3 rfl (dss_one (ds_ret (de_v 3) rfl))
/-! ### one edit -/
theorem okMv_safe {ps : List Str} {od : List Nat} {tn : Bool} {w : Wr} {am : Option Str} : okMv (textOf ps od :: am.toList) ps od tn w = safeOf ps od w tn (am.getD (textOf ps od)) := by
  unfold okMv safeOf
  congr 1
  funext r
  cases am with
  | none =>
    show inD (.str r) [.str (textOf ps od)] = inD (.str r) [.str (textOf ps od), .str (textOf ps od)]
    unfold inD
    simp [inV, DV.v, eqV]
  | some a => rfl
/-- the aim is never the text -/
def aimNe (s : Sx) : Prop := ∀ t, s.2.2 = some t → t ≠ textOf s.1 s.2.1
theorem aimNe.step {tn : Bool} {s : Sx} (h : aimNe s) (e : Ed) : aimNe (stepE tn s e) := by
  cases e with
  | aim t =>
    intro t' e'
    have e2 : (if t = textOf s.1 s.2.1 then none else some t) = some t' := e'
    split at e2
    · cases e2
    · rename_i hne
      cases e2
      exact hne
  | wr w =>
    unfold stepE edRes
    by_cases h1 : safeOf s.1 s.2.1 w tn (s.2.2.getD (textOf s.1 s.2.1)) = true
    · simp only [if_pos h1]
      by_cases h2 : textOf (afterP s.1 w) (afterO s.2.1 w) = textOf s.1 s.2.1
      · simp only [if_pos h2]
        intro t e'
        show t ≠ textOf (afterP s.1 w) (afterO s.2.1 w)
        rw [h2]
        exact h t e'
      · simp only [if_neg h2]
        exact fun t e' => by cases e'
    · simp only [if_neg h1]
      exact h
abbrev leN : List Str := ["_law_file_here", "_law_state_here", "_law_aim", "_law_edit_here", "_law_here", "_law_texts", "_law_later", "_law_one"]
theorem scLEd : FnScope leN ["_law_file_here", "_law_state_here", "_law_aim", "_law_edit_here"] (defScope s__law_edit) := ⟨rfl, rfl, rfl, by decide +kernel, rfl, by decide +kernel, by decide +kernel⟩
def resL (r : List Str × List Nat × Option Str × DV) : DV := .tup [stD r.1 r.2.1, aimD r.2.2.1, r.2.2.2]
def R_ledit (C : Addr) : List DV → DV → Prop := fun ds d => ∃ ps0 od0 pp op tn ps od am e, VS "ab" ps od ∧ okAim "ab" am ∧ aimNe (ps, od, am) ∧ okEd "ab" ps od e ∧ ds = [fileD C "ab" ps0 od0 pp op tn, stD ps od, aimD am, e.d] ∧ d = resL (edRes tn ps od am e)
theorem okS {z : Str} (h : PyData.strOk z = true) : (DV.str z).ok = true := by
  unfold DV.ok
  rw [DV.plain, h, DV.dep]
  rfl
theorem eqv_sn {z : Str} : (DV.str z).eqv .non = false := by
  show PyData.eqv (DV.pd _) (DV.pd _) = _
  rw [DV.pd, DV.pd]
  rfl
theorem okTextOr {a t r : Str} (h : okText a t r = true) : r = a ∨ r = t := by
  unfold okText inD at h
  simp [inV, DV.v, eqV] at h
  rcases h with h | h
  · exact .inl (by first | exact h | exact h.symm)
  · exact .inr (by first | exact h | exact h.symm)
theorem safe_text {ps : List Str} {od : List Nat} {tn : Bool} {w : Wr} {t : Str} (h : safeOf ps od w tn t = true) : textOf (afterP ps w) (afterO od w) = textOf ps od ∨ textOf (afterP ps w) (afterO od w) = t := by
  unfold safeOf at h
  rw [List.all_eq_true] at h
  exact okTextOr (h (textOf (afterP ps w) (afterO od w)) (by unfold readingsOf; exact List.mem_append_right _ (List.mem_singleton.mpr rfl)))
theorem ok_ledit (B : Bt g) (L : Fl g C) (P : Fp g C) (Te : Fn g 1 "_law_text" R_stext) (Le : Fn g 2 "_law_left" R_lleft) (Af : Fn g 1 "_law_after" R_safter) {f : Addr} {fd : FuncData} (F : Fun g.K "_law_edit" "_law_edit" s__law_edit f fd) : FnOk g.P g.w g.K g.mg g.base CX0 3 f fd ["_law_file_here", "_law_state_here", "_law_aim", "_law_edit_here"] (spR g.K (R_ledit C)) := by
  refine fn_ok F scLEd (fun ds d ⟨_, _, _, _, _, _, _, _, _, _, _, _, _, e, _⟩ => by rw [e]; rfl) fun ds d ⟨ps0, od0, pp, op, tn, ps, od, am, e0, v, ha, hn, he, e, ed⟩ => ?_
  subst e ed
  refine dss_cons (ds_set 4 scLEd.nd (d := .str (textOf ps od)) (de_call Te (da_cons (de_v 1) da_nil) ⟨ps, od, v.bd, rfl, rfl⟩) ?_)
  cases e0 with
  | aim t =>
    refine dss_cons (ds_if (x := true) (DT.is (dt_eqS (de_ixT (xs := [.str "aim", .str t]) (i := 0) (d := .str "aim") rfl (de_v 3) de_int) de_str) (by decide +kernel)) (fun _ => dss_one (ds_ret (d := .tup [stD ps od, aimD (if t = textOf ps od then none else some t), .non]) (de_tup (da_cons (de_v 1) (da_cons (de_if (x := decide (t = textOf ps od)) (dt_eqS (de_ixT (xs := [.str "aim", .str t]) (i := 1) (d := .str t) rfl (de_v 3) de_int) (de_v 4)) (fun h => ?_) fun h => ?_) (da_cons de_non da_nil)))) rfl)) fun z => by cases z)
    · rw [if_pos (of_decide_eq_true h)]; exact de_non
    · rw [if_neg (of_decide_eq_false h)]; exact de_ixT (xs := [.str "aim", .str t]) (i := 1) (d := .str t) rfl (de_v 3) de_int
  | wr w =>
    have hw := he.1
    have va := v.after hw
    refine dss_cons (ds_if (x := false) (DT.is (dt_eqS (de_ixT (xs := [.str "write", w.d]) (i := 0) (d := .str "write") rfl (de_v 3) de_int) de_str) (by decide +kernel)) (fun z => by cases z) fun _ => dss_nil ?_)
    refine dss_cons (ds_set 5 scLEd.nd (d := .tup (psD (textOf ps od :: am.toList))) (de_if (x := (aimD am).isN) (dt_isN (de_v 2)) (fun h => ?_) fun h => ?_) ?_)
    · cases am with
      | none => exact de_tup (da_cons (de_v 4) da_nil) (show 1 ≤ 100000 by decide)
      | some a => cases h
    · cases am with
      | none => cases h
      | some a => exact de_tup (da_cons (de_v 4) (da_cons (de_v 2) da_nil)) (show 2 ≤ 100000 by decide)
    refine dss_cons (ds_if (x := !safeOf ps od w tn (am.getD (textOf ps od))) (DT.is (dt_not (dt_e (de_all (bs := (leftsOf ps od w tn).map fun s => inD (.str (textOf s.1 s.2)) (psD (textOf ps od :: am.toList))) B.all (DE.is (dl_rL (own := [("_law_one", 7)]) scLEd.nd (by decide +kernel) (rL.ev (is := [7]) (ds := (leftsOf ps od w tn).map stP) (di_l (de_call Le (da_cons (de_v 1) (da_cons (de_ixT (xs := [.str "write", w.d]) (i := 1) (d := w.d) rfl (de_v 3) de_int) (da_cons (de_tn L P (de_v 0)) da_nil))) ⟨"ab", ps, od, w, tn, v, hw, rfl, rfl⟩)) ?_ (by decide)
      (fun d => [.val (fileD C "ab" ps0 od0 pp op tn), .val (stD ps od), .val (aimD am), .val (Ed.d (.wr w)), .val (.str (textOf ps od)), .val (.tup (psD (textOf ps od :: am.toList))), .un, .val d]) (fun _ => true) (leftT (textOf ps od :: am.toList)) (fun d hd => dg_n 7 scLEd.nd) (fun d hd => dts_nil) (fun d hd _ => ?_))).de ?_)))) (by rw [okMv_lefts, okMv_safe])) (fun h => ?_) fun h => ?_)
    · rw [List.length_map]
      exact Nat.le_trans (lefts_len hw) (by decide)
    · rw [List.mem_map] at hd
      obtain ⟨s, hs, rfl⟩ := hd
      exact DE.is (de_in (ds := psD (textOf ps od :: am.toList)) rfl rfl (flat_ps _) (de_call Te (da_cons (de_v 7) da_nil) ⟨s.1, s.2, lefts_bd v hw s hs, rfl, rfl⟩) (de_v 5)) (leftT_st s).symm
    · rw [filt, List.map_map, List.map_map]
      exact congrArg DV.lst (List.map_congr_left fun s _ => leftT_st s)
    · have hs : ¬ safeOf ps od w tn (am.getD (textOf ps od)) = true := by simpa using h
      refine dss_one (ds_ret (de_tup (da_cons (de_v 1) (da_cons (de_v 2) (da_cons de_str da_nil)))) ?_)
      have er : edRes tn ps od am (.wr w) = (ps, od, am, .str "no") := if_neg hs
      rw [er]
      rfl
    · have hs : safeOf ps od w tn (am.getD (textOf ps od)) = true := by simpa using h
      refine dss_nil (dss_cons (ds_set 6 scLEd.nd (d := stD (afterP ps w) (afterO od w)) (de_call Af (da_cons (de_v 1) (da_cons (de_ixT (xs := [.str "write", w.d]) (i := 1) (d := w.d) rfl (de_v 3) de_int) da_nil)) ⟨ps, od, w, hw.ok, v.hps, rfl, rfl⟩) ?_))
      have txw : PyData.strOk (textOf (afterP ps w) (afterO od w)) = true := word_ok v.hls (text_word va.hp va.hod va.hb)
      have tst : ∀ {p1 p2 p3 p4 pos : Pos}, DT g ⟨2, leN, defScope s__law_edit, fun _ => true, true, none⟩ (.Compare (.Call (.Name "_law_text" p1) [.Name "_law_later" p2] [] p3) [.Eq] [.Name "_law_aim" p4] pos) [.val (fileD C "ab" ps0 od0 pp op tn), .val (stD ps od), .val (aimD am), .val (Ed.d (.wr w)), .val (.str (textOf ps od)), .val (.tup (psD (textOf ps od :: am.toList))), .val (stD (afterP ps w) (afterO od w)), .un] (!decide (textOf (afterP ps w) (afterO od w) = textOf ps od)) := fun {p1 p2 p3 p4 pos} => by
        have ct : DE g ⟨2, leN, defScope s__law_edit, fun _ => true, true, none⟩ (.Call (.Name "_law_text" p1) [.Name "_law_later" p2] [] p3) [.val (fileD C "ab" ps0 od0 pp op tn), .val (stD ps od), .val (aimD am), .val (Ed.d (.wr w)), .val (.str (textOf ps od)), .val (.tup (psD (textOf ps od :: am.toList))), .val (stD (afterP ps w) (afterO od w)), .un] (.str (textOf (afterP ps w) (afterO od w))) := de_call Te (da_cons (de_v 6) da_nil) ⟨_, _, va.bd, rfl, rfl⟩
        have sor := safe_text hs
        cases am with
        | none =>
          have e1 : textOf (afterP ps w) (afterO od w) = textOf ps od := sor.elim id id
          rw [decide_eq_true e1]
          exact DT.is (dt_eqD (okS txw) rfl ct (de_v 2)) eqv_sn
        | some a =>
          have na : a ≠ textOf ps od := hn a rfl
          refine DT.is (dt_eqS ct (de_v 2)) ?_
          rcases sor with e1 | e1
          · rw [decide_eq_true e1, decide_eq_false (fun z => na (z.symm.trans e1))]
            rfl
          · have e1 : textOf (afterP ps w) (afterO od w) = a := e1
            rw [decide_eq_true e1, decide_eq_false (fun z => na (e1.symm.trans z))]
            rfl
      refine dss_one (ds_ret (d := .tup [stD (afterP ps w) (afterO od w), if textOf (afterP ps w) (afterO od w) = textOf ps od then aimD am else .non, .str (if textOf (afterP ps w) (afterO od w) = textOf ps od then "old" else "new")]) (de_tup (da_cons (de_v 6) (da_cons (de_if tst (fun h => ?_) fun h => ?_) (da_cons (de_if tst (fun h => ?_) fun h => ?_) da_nil)))) ?_)
      · rw [if_neg (by simpa using h)]; exact de_non
      · rw [if_pos (by simpa using h)]; exact de_v 2
      · rw [if_neg (by simpa using h)]; exact de_str
      · rw [if_pos (by simpa using h)]; exact de_str
      · have er : edRes tn ps od am (.wr w) = if textOf (afterP ps w) (afterO od w) = textOf ps od then (afterP ps w, afterO od w, am, .str "old") else (afterP ps w, afterO od w, none, .str "new") := if_pos hs
        rw [er]
        by_cases h2 : textOf (afterP ps w) (afterO od w) = textOf ps od
        · rw [if_pos h2, if_pos h2, if_pos h2]; rfl
        · rw [if_neg h2, if_neg h2, if_neg h2]; rfl
end SP

/-! x, y, z = f(.., one's own list): the third part is not told of. -/
namespace PD
open PySem PySem.Spec PyProof.Rows L2
section
variable {K : PySem.W.Frag} {ρ ρ' : Rho} {te : TE} {tg : TG} {i : Nat} {ds es' : List DV} {d1 d2 : DV} {is : List Nat} {E : Po}
theorem ev_tmpT (hi : ρ[i]? = some (.own ds)) (h : EvD K te (ρ.set i (.val (.lst ds))) (.tup [d1, d2, .lst es'])) (h1 : d1.cln [] = true) (h2 : d2.cln [] = true) {H0 : Hp} {σ : L2.St} {S H : Hp} (e : Ex S H) (n : En K H0 S H σ ρ) (Q : VK) (q : ∀ a v S' H', Go S H S' H' → Rp K S' v (.tup [d1, d2, .adr a]) → Q v H') : te σ H Q := by
  obtain ⟨p, vs, hp, h0, hs, hh, r⟩ := n.own hi
  have e1 : Ex (upd S p (.lst vs)) H := fun a u y => by
    by_cases w : a = p
    · subst w
      rw [upd_same] at y
      rw [hh]
      exact y
    · rw [upd_ne w] at y
      exact e a u y
  have n1 : En K H0 (upd S p (.lst vs)) H σ (ρ.set i (.val (.lst ds))) := n.lend hi hp hs (.lst r)
  refine h H0 σ _ H e1 n1 Q fun v S' H' g x => ?_
  have at_p : S' p = some (.lst vs) := g.s p _ upd_same
  let S2 : Hp := fun a => if a = p then none else S' a
  have s2 : ∀ a, a ≠ p → S2 a = S' a := fun a w => if_neg w
  have s2p : S2 p = none := if_pos rfl
  have g2 : Go S H S2 H' := by
    refine ⟨fun a u y => ?_, g.h, fun a u y => ?_, fun a u y m => ?_⟩
    · have w : a ≠ p := fun w => by rw [w, hs] at y; cases y
      rw [s2 a w]
      exact g.s a u (by rw [upd_ne w]; exact y)
    · have w : a ≠ p := fun w => by rw [w, s2p] at y; cases y
      rw [s2 a w] at y
      exact g.sub a u y
    · have w : a ≠ p := fun w => by rw [w, s2p] at y; cases y
      rw [s2 a w] at y
      exact g.new a u y (by rw [upd_ne w]; exact m)
  have hT : ∀ q xs, Rd S' q (.tup xs) → Rd S2 q (.tup xs) := fun q xs k => by
    have w : q ≠ p := fun w => by
      rw [w] at k
      rcases k with k | ⟨o, k⟩ <;> rw [at_p] at k <;> cases k
    rcases k with k | ⟨o, k⟩
    · exact .inl (by rw [s2 q w]; exact k)
    · exact .inr ⟨o, by rw [s2 q w]; exact k⟩
  have hO : ∀ q C dx fs, ([] : List Addr).contains C = false → S' q = some (.ins C dx fs) → S2 q = some (.ins C dx fs) := fun q C dx fs _ k => by
    have w : q ≠ p := fun w => by rw [w, at_p] at k; cases k
    rw [s2 q w]
    exact k
  cases x with
  | tup a rs =>
    cases rs with
    | cons r1 rs =>
      cases rs with
      | cons r2 rs =>
        cases rs with
        | cons r3 rs =>
          cases rs
          cases r3 with
          | @lst a3 _ _ s3 ra3 => exact q a3 _ S2 H' g2 (.tup (a.imp (hT _ _) id) (.cons (cln_cut hT hO h1 r1) (.cons (cln_cut hT hO h2 r2) (.cons (.adr a3) .nil))))
theorem st_asgT (hi : ρ[i]? = some (.own ds)) (h : EvD K te (ρ.set i (.val (.lst ds))) (.tup [d1, d2, .lst es'])) (h1 : d1.cln [] = true) (h2 : d2.cln [] = true) (ρ' : Addr → Rho) (hg : ∀ a, TgD K tg is (.tup [d1, d2, .adr a]) ρ (ρ' a)) (q : ∀ a, E.nx (ρ' a)) : StD K (tAsg te tg) ρ E := fun S0 H0 B σ S H D g0 b n o =>
  ev_tmpT hi h h1 h2 g0.sub n _ fun a v S1 H1 g1 r1 => hg a H0 σ S1 H1 v g1.sub (n.go g1) r1 _ fun σ' n' _ _ => o.nx _ _ S1 H1 (q a) (g0.tr g1) (b.tr g1.s) n'
end
section
variable {g : Gb} {l : Lc} {ρ : Rho} {e tg : Expr} {i : Nat} {ds es' : List DV} {d1 d2 : DV} {is : List Nat} {E : Po} {pos : Pos}
theorem ds_asgT (i : Nat) (hi : ρ[i]? = some (.own ds)) (h : DE g l e (ρ.set i (.val (.lst ds))) (.tup [d1, d2, .lst es'])) (h1 : d1.cln [] = true) (h2 : d2.cln [] = true) (ρ' : Addr → Rho) (hg : ∀ a, DG g l tg is (.tup [d1, d2, .adr a]) ρ (ρ' a)) (q : ∀ a, E.nx (ρ' a)) (hs : ∀ env, swapsWithSole [tg] e pos.line env = pure false := by intro _; rfl) (hw : ∀ env, swappedStores [tg] e env = pure none := by intro _; rfl)
    (hn : ∀ env, (assignEach [tg] env).map (·.2) = [assign tg env] := by intro _; rfl) : DS g l (.Assign [tg] e pos) ρ E :=
  DS.by _ (fun X o => ps_asg (UE.pe o e) (UG.pg o tg) (hs _) (hw _) (hn _)) (st_asgT hi h h1 h2 ρ' (fun a => (hg a).tg) q)
end
end PD

namespace SP
open PySem PySem.Spec PyProof.Rows L2 PD
variable {g : Gb} {C : Addr}
end SP

namespace SP
open PySem PySem.Spec PyProof.Rows L2 PD
variable {g : Gb} {C : Addr}
theorem eqv_self {d : DV} (h : d.ok = true) : d.eqv d = true := PySem.SeqAt.eqv_refl d.pd (pd_lay (ok_plain h))
theorem ok_row {xs : List DV} (h : ∀ d ∈ xs, ∃ i, d = .int i) : (DV.lst xs).ok = true := by
  have go : ∀ xs : List DV, (∀ d ∈ xs, ∃ i, d = .int i) → plainAll xs = true ∧ depAll xs = 0 := by
    intro xs
    induction xs with
    | nil => exact fun _ => ⟨by rw [plainAll], by rw [depAll]⟩
    | cons x xs ih =>
      intro h
      obtain ⟨a, b⟩ := ih fun d hd => h d (List.mem_cons_of_mem _ hd)
      obtain ⟨i, rfl⟩ := h x (List.mem_cons_self ..)
      exact ⟨by rw [plainAll, a, DV.plain]; rfl, by rw [depAll, b, DV.dep]; rfl⟩
  obtain ⟨a, b⟩ := go xs h
  unfold DV.ok
  rw [DV.plain, a, DV.dep, b]
  rfl
theorem wr_plain {ls : Str} {n : Nat} {w : Wr} (hl : letterSet ls) (h : VW ls n w) : w.d.plain = true ∧ w.d.dep ≤ 2 := by
  cases w with
  | piece b p =>
    show (DV.tup [.str "piece", .int b, .str p]).plain = true ∧ (DV.tup [.str "piece", .int b, .str p]).dep ≤ 2
    rw [DV.plain, plainAll, plainAll, plainAll, plainAll, DV.plain, DV.plain, DV.plain, word_ok hl h.2, DV.dep, depAll, depAll, depAll, depAll, DV.dep, DV.dep, DV.dep, show PyData.strOk ("piece" : Str) = true by decide +kernel]
    decide
  | order o =>
    show (DV.tup [.str "order", .tup (odD o)]).plain = true ∧ (DV.tup [.str "order", .tup (odD o)]).dep ≤ 2
    rw [DV.plain, plainAll, plainAll, plainAll, DV.plain, DV.plain, plain_odD, DV.dep, depAll, depAll, depAll, DV.dep, DV.dep, dep_odD, show PyData.strOk ("order" : Str) = true by decide +kernel]
    decide
theorem ok_wrs {ls : Str} {n : Nat} {ws : List Wr} (hl : letterSet ls) (h : ∀ w ∈ ws, VW ls n w) : (wrsD ws).ok = true := by
  have go : ∀ ws : List Wr, (∀ w ∈ ws, VW ls n w) → plainAll (ws.map Wr.d) = true ∧ depAll (ws.map Wr.d) ≤ 2 := by
    intro ws
    induction ws with
    | nil => exact fun _ => ⟨by rw [List.map_nil, plainAll], by rw [List.map_nil, depAll]; decide⟩
    | cons x xs ih =>
      intro h
      obtain ⟨a, b⟩ := ih fun d hd => h d (List.mem_cons_of_mem _ hd)
      obtain ⟨a', b'⟩ := wr_plain hl (h x (List.mem_cons_self ..))
      refine ⟨by rw [List.map_cons, plainAll, a, a']; rfl, ?_⟩
      rw [List.map_cons, depAll]
      exact Nat.max_le.mpr ⟨b', b⟩
  obtain ⟨a, b⟩ := go ws h
  unfold wrsD DV.ok
  rw [DV.plain, a, DV.dep, Bool.true_and]
  exact decide_eq_true (by omega)
end SP

/-! _law_done, _law_edits. -/
namespace SP
open PySem PySem.Spec PyProof.Rows L2 PD
variable {g : Gb} {C : Addr}
theorem anssOf_snoc {tn : Bool} {s : Sx} {es : List Ed} {i : Nat} {e : Ed} (h : es[i]? = some e) : (anssOf tn s es).take (i + 1) = (anssOf tn s es).take i ++ [ansE tn (stAt tn s es i) e] := by
  have hm : (anssOf tn s es)[i]? = some (ansE tn (stAt tn s es i) e) := by
    have hi := (List.getElem?_eq_some_iff.mp h).1
    unfold anssOf
    rw [List.getElem?_map, List.getElem?_range hi]
    show some (ansE tn (stAt tn s es i) (es.getD i _)) = _
    rw [List.getD_eq_getElem?_getD, h]
    rfl
  exact take_more hm
theorem anssOf_len {tn : Bool} {s : Sx} {es : List Ed} : (anssOf tn s es).length = es.length := by
  unfold anssOf
  rw [List.length_map, List.length_range]
theorem aimNe_at {tn : Bool} : ∀ {es : List Ed} {s : Sx} (i : Nat), aimNe s → aimNe (stAt tn s es i)
  | [], s, i, k => by
    unfold stAt
    rw [List.take_nil]
    exact k
  | e0 :: es, s, 0, k => k
  | e0 :: es, s, i + 1, k => aimNe_at (es := es) i (k.step e0)
abbrev ldN : List Str := ["_law_file_here", "_law_edits_here", "_law_state_here", "_law_aim", "_law_found", "_law_edit_here", "_law_answer"]
theorem scLDo : FnScope ldN ["_law_file_here", "_law_edits_here"] (defScope s__law_done) := ⟨rfl, rfl, rfl, by decide +kernel, rfl, by decide +kernel, by decide +kernel⟩
def doneD (tn : Bool) (s0 : Sx) (es : List Ed) : DV := .tup [stP ((stAt tn s0 es es.length).1, (stAt tn s0 es es.length).2.1), aimD (stAt tn s0 es es.length).2.2, .lst (anssOf tn s0 es)]
def R_ldn (C : Addr) : List DV → DV → Prop := fun ds d => ∃ ps od pp op tn es, VF "ab" ps od pp op ∧ okEds "ab" tn (ps, od, none) es ∧ es.length ≤ 1000 ∧ ds = [fileD C "ab" ps od pp op tn, .lst (es.map Ed.d)] ∧ d = doneD tn (ps, od, none) es
theorem ok_ldn (Ls : Fn g 3 "_law_state" (R_fstate C)) (Le : Fn g 3 "_law_edit" (R_ledit C)) {f : Addr} {fd : FuncData} (F : Fun g.K "_law_done" "_law_done" s__law_done f fd) : FnOk g.P g.w g.K g.mg g.base CX0 4 f fd ["_law_file_here", "_law_edits_here"] (spR g.K (R_ldn C)) := by
  refine fn_ok F scLDo (fun ds d ⟨_, _, _, _, _, _, _, _, _, e, _⟩ => by rw [e]; rfl) fun ds d ⟨ps, od, pp, op, tn, es, v, he, hl, e, ed⟩ => ?_
  subst e ed
  have k0 : okSx "ab" pp op (ps, od, none) := ⟨v, fun t e => by cases e⟩
  have n0 : aimNe (ps, od, none) := fun t e => by cases e
  refine dss_cons (ds_par3L 2 3 4 scLDo.nd rfl (de_call Ls (da_cons (de_v 0) da_nil) ⟨"ab", ps, od, pp, op, tn, rfl, rfl⟩) de_non (dl_lst da_nil) ?_)
  refine dss_cons (ds_for (is := [5]) (di_l (ds := es.map Ed.d) (de_v 1))
    (fun i ρ => ∃ x5 x6 : EV, i ≤ es.length ∧ x5.isOwn = false ∧ x6.isOwn = false ∧ ρ = [.val (fileD C "ab" ps od pp op tn), .val (.lst (es.map Ed.d)), .val (stD (stAt tn (ps, od, none) es i).1 (stAt tn (ps, od, none) es i).2.1), .val (aimD (stAt tn (ps, od, none) es i).2.2), .own ((anssOf tn (ps, od, none) es).take i), x5, x6]) ⟨.un, .un, Nat.zero_le _, rfl, rfl, rfl⟩ ?_ ?_)
  · rintro i d ρ hd ⟨x5, x6, hi, n5, n6, rfl⟩
    rw [List.getElem?_map] at hd
    obtain ⟨e0, he0, rfl⟩ := Option.map_eq_some_iff.mp hd
    have hil := (List.getElem?_eq_some_iff.mp he0).1
    have ki := okSx_at i k0 he
    have eo := okEds_get he he0
    refine ⟨_, dg_n 5 scLDo.nd, ?_⟩
    refine dss_cons (ds_asg (d := resL (edRes tn (stAt tn (ps, od, none) es i).1 (stAt tn (ps, od, none) es i).2.1 (stAt tn (ps, od, none) es i).2.2 e0)) (de_call Le (da_cons (de_v 0) (da_cons (de_v 2) (da_cons (de_v 3) (da_cons (de_v 5) da_nil)))) ⟨ps, od, pp, op, tn, _, _, _, e0, ki.v.v, ki.a, aimNe_at i n0, eo, rfl, rfl⟩) (dg_tup (dgs_cons (dg_n 2 scLDo.nd) (dgs_cons (dg_n 3 scLDo.nd) (dgs_cons (dg_n 6 scLDo.nd) dgs_nil)))) ?_)
    refine dss_one (ds_append 4 rfl (de_v 6) ?_ ⟨.val e0.d, .val (ansE tn (stAt tn (ps, od, none) es i) e0), hil, rfl, rfl, ?_⟩)
    · rw [List.length_take, anssOf_len]
      omega
    · rw [anssOf_snoc he0, stAt_succ he0]
      rfl
  · rintro ρ ⟨x5, x6, _, _, _, rfl⟩
    rw [List.length_map, List.take_of_length_le (by rw [anssOf_len]; exact Nat.le_refl _)]
    exact dss_freeze 4 rfl (dss_one (ds_ret (de_tup (da_cons (de_v 2) (da_cons (de_v 3) (da_cons (de_v 4) da_nil)))) rfl))
/-! ### the edits that the law draws -/
def some7 : List Str := ["", "a", "b", "ab", "ba", "abb", "aab"]
theorem some7_ok : ∀ p ∈ some7, wordOk "ab" 6 p = true := by decide +kernel
def ableE (tn : Bool) (s : Sx) : List Wr := mvsOf (textOf s.1 s.2.1 :: s.2.2.toList) s.1 s.2.1 tn
def everyE (tn : Bool) (s : Sx) (sd : Int) : List Wr := if (!decide (ableE tn s = []) && decide (0 < (sd / 7) % 4)) = true then ableE tn s else writesOf "ab" s.1 s.2.1
def nextE (tn : Bool) (s : Sx) (sd : Int) : Ed := if sd % 4 = 0 then .aim (some7.getD ((sd / 40) % 7).toNat "") else .wr ((everyE tn s sd).getD ((sd / 40) % ((everyE tn s sd).length : Int)).toNat (.order []))
def edsOf (tn : Bool) (s0 : Sx) (xs : List Int) (idx : Nat) : Nat → List Ed
  | 0 => []
  | k + 1 => edsOf tn s0 xs idx k ++ [nextE tn (stAt tn s0 (edsOf tn s0 xs idx k) (edsOf tn s0 xs idx k).length) (numOf xs (idx + k))]
theorem edsOf_len {tn : Bool} {s0 : Sx} {xs : List Int} {idx : Nat} : ∀ k, (edsOf tn s0 xs idx k).length = k
  | 0 => rfl
  | k + 1 => by
    rw [edsOf, List.length_append, edsOf_len k]
    rfl
theorem okEds_snoc {ls : Str} {tn : Bool} {e : Ed} : ∀ {es : List Ed} {s : Sx}, okEds ls tn s es → okEd ls (stAt tn s es es.length).1 (stAt tn s es es.length).2.1 e → okEds ls tn s (es ++ [e])
  | [], s, _, h => ⟨h, trivial⟩
  | e0 :: es, s, ⟨h0, h1⟩, h => ⟨h0, okEds_snoc (es := es) h1 h⟩
theorem orders_two : ∀ n ≤ 4, 1 ≤ n → ([] : List Nat) ∈ ordersOf n ∧ [0] ∈ ordersOf n := by decide +kernel
theorem writes_pos {ls : Str} {ps : List Str} {od : List Nat} (v : VS ls ps od) : 0 < (writesOf ls ps od).length := by
  obtain ⟨h1, h2⟩ := orders_two _ v.hps v.hps1
  have go : ∃ o ∈ ordersOf ps.length, o ≠ od := by
    by_cases e : od = []
    · exact ⟨[0], h2, by rw [e]; decide⟩
    · exact ⟨[], h1, fun z => e z.symm⟩
  obtain ⟨o, ho, hne⟩ := go
  have m : Wr.order o ∈ writesOf ls ps od := by
    unfold writesOf
    refine List.mem_append_right _ (List.mem_map.mpr ⟨o, List.mem_filter.mpr ⟨ho, ?_⟩, rfl⟩)
    rw [decide_eq_false hne]
    rfl
  exact List.length_pos_of_mem m
theorem able_sub {tn : Bool} {s : Sx} : ∀ w ∈ ableE tn s, w ∈ writesOf "ab" s.1 s.2.1 := fun w h => (List.mem_filter.mp h).1
theorem every_sub {tn : Bool} {s : Sx} {sd : Int} : ∀ w ∈ everyE tn s sd, w ∈ writesOf "ab" s.1 s.2.1 := fun w h => by
  unfold everyE at h
  split at h
  · exact able_sub w h
  · exact h
theorem every_pos {tn : Bool} {s : Sx} {sd : Int} (v : VS "ab" s.1 s.2.1) : 0 < (everyE tn s sd).length := by
  unfold everyE
  split
  · rename_i h
    rw [Bool.and_eq_true] at h
    exact List.length_pos_iff.mpr (by simpa using h.1)
  · exact writes_pos v
theorem emod_lt {a n : Int} (h : 0 < n) : (a % n).toNat < n.toNat := by
  have := Int.emod_lt_of_pos a h
  have := Int.emod_nonneg a (show n ≠ 0 by omega)
  omega
theorem every_get {tn : Bool} {s : Sx} {sd : Int} (v : VS "ab" s.1 s.2.1) : (everyE tn s sd)[((sd / 40) % ((everyE tn s sd).length : Int)).toNat]? = some ((everyE tn s sd).getD ((sd / 40) % ((everyE tn s sd).length : Int)).toNat (.order [])) := by
  have hp := every_pos (tn := tn) (sd := sd) v
  have h : ((sd / 40) % ((everyE tn s sd).length : Int)).toNat < (everyE tn s sd).length := by
    have := emod_lt (a := sd / 40) (n := ((everyE tn s sd).length : Int)) (by omega)
    omega
  rw [List.getD_eq_getElem?_getD, List.getElem?_eq_getElem h]
  rfl
theorem some7_get (sd : Int) : some7[((sd / 40) % 7).toNat]? = some (some7.getD ((sd / 40) % 7).toNat "") := by
  have h : ((sd / 40) % 7).toNat < some7.length := emod_lt (by decide)
  rw [List.getD_eq_getElem?_getD, List.getElem?_eq_getElem h]
  rfl
theorem nextE_ok {tn : Bool} {s : Sx} {sd : Int} (v : VS "ab" s.1 s.2.1) : okEd "ab" s.1 s.2.1 (nextE tn s sd) := by
  unfold nextE
  split
  · exact some7_ok _ (List.mem_of_getElem? (some7_get sd))
  · exact writes_ok v _ (every_sub _ (List.mem_of_getElem? (every_get v)))
theorem edsOf_ok {tn : Bool} {ps : List Str} {od : List Nat} {pp op : Int} {xs : List Int} {idx : Nat} (v : VF "ab" ps od pp op) : ∀ k, okEds "ab" tn (ps, od, none) (edsOf tn (ps, od, none) xs idx k)
  | 0 => trivial
  | k + 1 => by
    have k0 : okSx "ab" pp op (ps, od, none) := ⟨v, fun t e => by cases e⟩
    have ih := edsOf_ok (tn := tn) (xs := xs) (idx := idx) v k
    exact okEds_snoc ih (nextE_ok (okSx_at _ k0 ih).v.v)
end SP

/-! _law_edits. -/
namespace SP
open PySem PySem.Spec PyProof.Rows L2 PD
variable {g : Gb} {C : Addr}
theorem cln_psD (Cs : List Addr) : ∀ ps : List Str, clnAll Cs (psD ps) = true
  | [] => by simp [psD, clnAll]
  | p :: ps => by
    have ih := cln_psD Cs ps
    unfold psD at ih ⊢
    rw [List.map_cons, clnAll, ih, DV.cln]
    rfl
theorem cln_odD (Cs : List Addr) : ∀ od : List Nat, clnAll Cs (odD od) = true
  | [] => by simp [odD, clnAll]
  | p :: ps => by
    have ih := cln_odD Cs ps
    unfold odD at ih ⊢
    rw [List.map_cons, clnAll, ih, DV.cln]
    rfl
theorem cln_st (Cs : List Addr) (ps : List Str) (od : List Nat) : (stD ps od).cln Cs = true := by
  unfold stD
  rw [DV.cln, clnAll, clnAll, clnAll, DV.cln, DV.cln, cln_psD, cln_odD]
  rfl
abbrev ledN : List Str := ["_law_script", "_law_index", "_law_file_here", "_law_count", "_law_found", "_law_some", "_law_turn", "_law_seed", "_law_state_here", "_law_aim", "_law_answers", "_law_texts", "_law_able", "_law_every", "_law_write", "_law_later"]
theorem scLEs : FnScope ledN ["_law_script", "_law_index", "_law_file_here", "_law_count"] (defScope s__law_edits) := ⟨rfl, rfl, rfl, by decide +kernel, rfl, by decide +kernel, by decide +kernel⟩
def R_leds (C : Addr) : List DV → DV → Prop := fun ds d => ∃ (D : DV) (xs : List Int) (idx cnt : Nat) (ps : List Str) (od : List Nat) (pp op : Int) (tn : Bool), Scr D xs ∧ xs.length ≤ 63 ∧ idx + cnt ≤ 1000 ∧ VF "ab" ps od pp op ∧ ds = [D, .int idx, fileD C "ab" ps od pp op tn, .int cnt] ∧ d = .lst ((edsOf tn (ps, od, none) xs idx cnt).map Ed.d)
def mvRho (r : Rho) (d : DV) : Rho := match d with
  | .tup [a, b] => (r.set 14 (.val a)).set 15 (.val b)
  | _ => r
theorem dneq_nil {ws : List Wr} : (!(wrsD ws).eqv (.lst [])) = !decide (ws = []) := by
  cases ws with
  | nil => rfl
  | cons w ws =>
    have : (wrsD (w :: ws)).eqv (.lst []) = false := by
      show PyData.eqv (DV.pd (.lst (w.d :: ws.map Wr.d))) (DV.pd (.lst [])) = _
      rw [DV.pd, DV.pd, PyData.eqv]
      show PyData.eqvAll (w.d.pd :: pdAll _) [] = _
      rw [PyData.eqvAll]
    rw [this]
    rfl
theorem ok_leds (B : Bt g) (Nu : Fn g 1 "_law_number" R_num) (Do : Fn g 4 "_law_done" (R_ldn C)) (Te : Fn g 1 "_law_text" R_stext) (Mv : Fn g 3 "_law_moves" (R_lmoves C)) (Ws : Fn g 1 "_law_writes" R_lwrs) {f : Addr} {fd : FuncData} (F : Fun g.K "_law_edits" "_law_edits" s__law_edits f fd) : FnOk g.P g.w g.K g.mg g.base CX0 5 f fd ["_law_script", "_law_index", "_law_file_here", "_law_count"] (spR g.K (R_leds C)) := by
  refine fn_ok F scLEs (fun ds d ⟨_, _, _, _, _, _, _, _, _, _, _, _, _, e, _⟩ => by rw [e]; rfl) fun ds d ⟨D, xs, idx, cnt, ps, od, pp, op, tn, hD, hl, hi, v, e, ed⟩ => ?_
  subst e ed
  have k0 : okSx "ab" pp op (ps, od, none) := ⟨v, fun t e => by cases e⟩
  refine dss_cons (ds_parO 4 5 scLEs.nd rfl (dl_lst da_nil) (d2 := .lst (psD some7)) (dl_lst (da_cons de_str (da_cons de_str (da_cons de_str (da_cons de_str (da_cons de_str (da_cons de_str (da_cons de_str da_nil)))))))).de ?_)
  refine dss_cons (ds_for (is := [6]) (di_r B.range (n := cnt) (by omega) (de_v 3))
    (fun k ρ => ∃ x6 x7 x8 x9 x10 x11 x12 x13 x14 x15 : EV, k ≤ cnt ∧ noOwn [x6, x7, x8, x9, x10, x11, x12, x13, x14, x15] = true ∧ ρ = [.val D, .val (.int idx), .val (fileD C "ab" ps od pp op tn), .val (.int cnt), .own ((edsOf tn (ps, od, none) xs idx k).map Ed.d), .val (.lst (psD some7)), x6, x7, x8, x9, x10, x11, x12, x13, x14, x15]) ⟨.un, .un, .un, .un, .un, .un, .un, .un, .un, .un, Nat.zero_le _, rfl, rfl⟩ ?_ ?_)
  · rintro k d ρ hd ⟨x6, x7, x8, x9, x10, x11, x12, x13, x14, x15, hk, no, rfl⟩
    have hk2 : k < cnt := by
      have := (List.getElem?_eq_some_iff.mp hd).1
      rw [rangeD_len] at this
      exact this
    have ed : d = .int (k : Int) := by
      unfold rangeD at hd
      rw [List.getElem?_map, List.getElem?_range hk2] at hd
      cases hd
      show DV.int _ = _
      rw [Int.zero_add]
    subst ed
    have eo := edsOf_ok (tn := tn) (xs := xs) (idx := idx) v k
    have el := edsOf_len (tn := tn) (s0 := (ps, od, none)) (xs := xs) (idx := idx) k
    have es1 : edsOf tn (ps, od, none) xs idx (k + 1) = edsOf tn (ps, od, none) xs idx k ++ [nextE tn (stAt tn (ps, od, none) (edsOf tn (ps, od, none) xs idx k) (edsOf tn (ps, od, none) xs idx k).length) (numOf xs (idx + k))] := rfl
    have ks := okSx_at (edsOf tn (ps, od, none) xs idx k).length k0 eo
    rw [es1]
    generalize edsOf tn (ps, od, none) xs idx k = es at eo el ks ⊢
    generalize hsd : numOf xs (idx + k) = sd
    generalize hs : stAt tn (ps, od, none) es es.length = s at ks ⊢
    have vs := ks.v.v
    refine ⟨_, dg_n 6 scLEs.nd, ?_⟩
    refine dss_cons (ds_set 7 scLEs.nd (d := .int sd) (de_call Nu (da_cons (de_v 0) (da_cons (DE.is (de_add (de_v 1) (de_v 6)) (by show DV.int ((idx : Int) + (k : Int)) = DV.int ((idx + k : Nat) : Int); rfl)) da_nil)) ⟨D, xs, idx + k, hD, hl, by omega, rfl, by rw [hsd]⟩) ?_)
    refine dss_cons (ds_asgT 4 rfl (d1 := stP (s.1, s.2.1)) (d2 := aimD s.2.2) (es' := anssOf tn (ps, od, none) es) (de_call Do (da_cons (de_v 2) (da_cons (de_v 4) da_nil)) ⟨ps, od, pp, op, tn, es, v, eo, by omega, rfl, by unfold doneD; rw [hs]⟩) (cln_st _ _ _) cln_aim (fun a => _) (fun a => dg_tup (dgs_cons (dg_n 8 scLEs.nd) (dgs_cons (dg_n 9 scLEs.nd) (dgs_cons (dg_n 10 scLEs.nd) dgs_nil)))) fun a => ?_)
    have tx : ∀ {ρ : Rho} {p1 p2 p3 : Pos} {l : Lc}, l = ⟨4, ledN, defScope s__law_edits, fun _ => true, true, none⟩ → ρ[8]? = some (.val (stP (s.1, s.2.1))) → DE g l (.Call (.Name "_law_text" p1) [.Name "_law_state_here" p2] [] p3) ρ (.str (textOf s.1 s.2.1)) := fun {ρ p1 p2 p3 l} hl h => by
      subst hl
      exact de_call Te (da_cons (de_v (d := stP (s.1, s.2.1)) 8 h) da_nil) ⟨s.1, s.2.1, vs.bd, rfl, rfl⟩
    refine dss_cons (ds_set 11 scLEs.nd (d := .tup (psD (textOf s.1 s.2.1 :: s.2.2.toList))) (de_if (x := (aimD s.2.2).isN) (dt_isN (de_v 9)) (fun h => ?_) fun h => ?_) ?_)
    · cases z : s.2.2 with
      | none => exact de_tup (da_cons (tx rfl rfl) da_nil) (show 1 ≤ 100000 by decide)
      | some b => rw [z] at h; cases h
    · cases z : s.2.2 with
      | none => rw [z] at h; cases h
      | some b => exact de_tup (da_cons (tx rfl rfl) (da_cons (DE.is (de_v 9) rfl) da_nil)) (show 2 ≤ 100000 by decide)
    have wl := writes_len vs
    have al : (ableE tn s).length ≤ 137 := Nat.le_trans (List.length_filter_le _ _) wl
    refine dss_cons (ds_lcO (own := [("_law_write", 14), ("_law_later", 15)]) 12 scLEs.nd (by decide +kernel) (EvL.is (ds' := (ableE tn s).map Wr.d) (rL.ev (is := [14, 15]) (ds := (ableE tn s).map (lmvD s.1 s.2.1)) (di_l (de_call Mv (da_cons (de_v 2) (da_cons (de_v 8) (da_cons (de_v 11) da_nil))) ⟨ps, od, pp, op, tn, s.1, s.2.1, textOf s.1 s.2.1 :: s.2.2.toList, vs, rfl, rfl⟩)) ?_ (by decide)
      (mvRho [.val D, .val (.int idx), .val (fileD C "ab" ps od pp op tn), .val (.int cnt), .own (es.map Ed.d), .val (.lst (psD some7)), .val (.int (k : Int)), .val (.int sd), .val (stP (s.1, s.2.1)), .val (aimD s.2.2), .val (.adr a), .val (.tup (psD (textOf s.1 s.2.1 :: s.2.2.toList))), x12, x13, .un, .un]) (fun _ => true) (fun d => match d with | .tup [a, _] => a | _ => .non) (fun d hd => ?_) (fun d hd => dts_nil) (fun d hd _ => ?_)) ?_) (dss_freeze 12 rfl ?_))
    · rw [List.length_map]; omega
    · rw [List.mem_map] at hd
      obtain ⟨w, _, rfl⟩ := hd
      exact dg_tup (dgs_cons (dg_n 14 scLEs.nd) (dgs_cons (dg_n 15 scLEs.nd) dgs_nil))
    · rw [List.mem_map] at hd
      obtain ⟨w, _, rfl⟩ := hd
      exact de_v 14
    · rw [filt, List.map_map]
      rfl
    have okA : (wrsD (ableE tn s)).ok = true := ok_wrs vs.hls fun w hw => (writes_ok vs w (able_sub w hw)).1
    refine dss_cons (ds_set 13 scLEs.nd (d := wrsD (everyE tn s sd)) (de_if (x := (!decide (ableE tn s = []) && decide (0 < (sd / 7) % 4))) (dt_w (dw_and (DT.is (dt_neD okA rfl (de_v (d := wrsD (ableE tn s)) 12) (dl_lst da_nil).de) dneq_nil) fun _ => dw_and1 (dt_gtI (de_mod (by decide) (de_intOf B.int (de_fdiv ⟨by decide, by decide⟩ (de_v 7) de_int)) de_int) de_int))) (fun h => ?_) fun h => ?_) ?_)
    · unfold everyE
      rw [if_pos h]
      exact de_v 12
    · unfold everyE
      rw [if_neg (by rw [h]; decide)]
      exact de_call Ws (da_cons (de_v 2) (da_cons (de_v 8) da_nil)) ⟨_, s.1, s.2.1, vs, rfl, rfl⟩
    have ep := every_pos (tn := tn) (sd := sd) vs
    have fin : ∀ (e0 : Ed) (r : Rho), e0 = nextE tn s sd → r = [.val D, .val (.int idx), .val (fileD C "ab" ps od pp op tn), .val (.int cnt), .own (es.map Ed.d ++ [e0.d]), .val (.lst (psD some7)), .val (.int (k : Int)), .val (.int sd), .val (stP (s.1, s.2.1)), .val (aimD s.2.2), .val (.adr a), .val (.tup (psD (textOf s.1 s.2.1 :: s.2.2.toList))), .val (wrsD (ableE tn s)), .val (wrsD (everyE tn s sd)), x14, x15] → ∃ x6 x7 x8 x9 x10 x11 x12 x13 x14 x15 : EV, k + 1 ≤ cnt ∧ noOwn [x6, x7, x8, x9, x10, x11, x12, x13, x14, x15] = true ∧ r = [.val D, .val (.int idx), .val (fileD C "ab" ps od pp op tn), .val (.int cnt), .own ((es ++ [nextE tn s sd]).map Ed.d), .val (.lst (psD some7)), x6, x7, x8, x9, x10, x11, x12, x13, x14, x15] := fun e0 r h0 hr => by
      subst h0 hr
      refine ⟨_, _, _, _, _, _, _, _, x14, x15, hk2, ?_, by rw [List.map_append]; rfl⟩
      have n14 : noOwn [x14, x15] = true := by
        unfold noOwn at no ⊢
        simp only [List.all_cons, List.all_nil, Bool.and_eq_true] at no ⊢
        exact ⟨no.2.2.2.2.2.2.2.2.1, no.2.2.2.2.2.2.2.2.2⟩
      unfold noOwn at n14 ⊢
      simp only [List.all_cons, List.all_nil, Bool.and_eq_true] at n14 ⊢
      exact ⟨rfl, rfl, rfl, rfl, rfl, rfl, rfl, rfl, n14⟩
    have l4 : (es.map Ed.d).length < 100000 := by rw [List.length_map]; omega
    refine dss_one (ds_if (x := decide (sd % 4 = 0)) (dt_eqI (de_mod (by decide) (de_intOf B.int (de_v 7)) de_int) de_int) (fun h => ?_) fun h => ?_)
    · refine dss_one (ds_append 4 rfl (de_tup (da_cons de_str (da_cons (de_ixL (i := (sd / 40) % 7) (xs := psD some7) (d := .str (some7.getD ((sd / 40) % 7).toNat "")) ?_ (de_v 5) (de_mod (by decide) (de_intOf B.int (de_fdiv ⟨by decide, by decide⟩ (de_v 7) de_int)) de_int)) da_nil))) l4 (fin (.aim (some7.getD ((sd / 40) % 7).toNat "")) _ ?_ rfl))
      · have e7 : (sd / 40) % 7 = ((((sd / 40) % 7).toNat : Nat) : Int) := by
          have := Int.emod_nonneg (sd / 40) (show (7 : Int) ≠ 0 by decide)
          omega
        rw [e7]
        exact atI_nat (psD_get (some7_get sd))
      · unfold nextE
        rw [if_pos (of_decide_eq_true h)]
    · refine dss_one (ds_append 4 rfl (de_tup (da_cons de_str (da_cons (de_ixL (i := (sd / 40) % ((everyE tn s sd).length : Int)) (xs := (everyE tn s sd).map Wr.d) (d := ((everyE tn s sd).getD ((sd / 40) % ((everyE tn s sd).length : Int)).toNat (.order [])).d) ?_ (de_v 13) (de_mod (by omega) (de_intOf B.int (de_fdiv ⟨by decide, by decide⟩ (de_v 7) de_int)) (DE.is (de_len B.len (ds := (everyE tn s sd).map Wr.d) rfl (de_v 13)) (by rw [List.length_map])))) da_nil))) l4 (fin (.wr ((everyE tn s sd).getD ((sd / 40) % ((everyE tn s sd).length : Int)).toNat (.order []))) _ ?_ rfl))
      · have e7 : (sd / 40) % ((everyE tn s sd).length : Int) = ((((sd / 40) % ((everyE tn s sd).length : Int)).toNat : Nat) : Int) := by
          have := Int.emod_nonneg (sd / 40) (show ((everyE tn s sd).length : Int) ≠ 0 by omega)
          omega
        rw [e7]
        refine atI_nat ?_
        rw [Int.toNat_natCast, List.getElem?_map, every_get vs]
        rfl
      · unfold nextE
        rw [if_neg (of_decide_eq_false h)]
  · rintro ρ ⟨x6, x7, x8, x9, x10, x11, x12, x13, x14, x15, _, _, rfl⟩
    rw [rangeD_len]
    exact dss_freeze 4 rfl (dss_one (ds_ret (de_v 4) rfl))
end SP

/-! list(zip(xs, ys)) of two lists as long as each other, at the library's level. -/
namespace ZpL
open PySem
open Sem (wp)
theorem zip_no_len : typeLookup (.type "zip") "__len__" = pure none := am_miss_of_fast (by decide +kernel)
theorem zip_no_hint : typeLookup (.type "zip") "__length_hint__" = pure none := am_miss_of_fast (by decide +kernel)
section
variable {prog : Program} {w : World} {A : Around} {E : Value → Shared → Prop} {s : Shared}
/-- what the zip holds before item i -/
structure ZpSt (h : Heap) (z TI TO i1 i2 l1 l2 S : Addr) (xs ys : Array Value) (i : Nat) : Prop where
  own : (i = 0 ∧ IsZip h z TI TO .none ∧ ∃ a b, IsPair h TO a b) ∨ ∃ T f oT, IsZipHeld h z TI TO T f ∧ h.get? T = some oT ∧ T ≠ z ∧ T ≠ i1 ∧ T ≠ i2 ∧ T ≠ S
  ti : IsPair h TI (.ref i1) (.ref i2)
  h1 : h.IsListIter i1 l1 i
  h2 : h.IsListIter i2 l2 i
  x1 : h.IsList l1 xs
  x2 : h.IsList l2 ys
/-- the addresses of the zip stand below S -/
structure ZpLt (z TI TO i1 i2 l1 l2 S : Addr) : Prop where
  z : z < S
  TI : TI < S
  TO : TO < S
  i1 : i1 < S
  i2 : i2 < S
  l1 : l1 < S
  l2 : l2 < S
variable {z TI TO i1 i2 l1 l2 S : Addr} {xs ys : Array Value} {i : Nat}
theorem ZpSt.keep {h h' : Heap} (x : ZpSt h z TI TO i1 i2 l1 l2 S xs ys i) (lt : ZpLt z TI TO i1 i2 l1 l2 S) (hk : ∀ b o, b ≠ S → h.get? b = some o → h'.get? b = some o) : ZpSt h' z TI TO i1 i2 l1 l2 S xs ys i where
  own := by
    rcases x.own with ⟨e, hz, a, b, hTO⟩ | ⟨T, f, oT, hz, hT, t1, t2, t3, t4⟩
    · exact .inl ⟨e, hk _ _ (Nat.ne_of_lt lt.z) hz, a, b, hk _ _ (Nat.ne_of_lt lt.TO) hTO⟩
    · exact .inr ⟨T, f, oT, hk _ _ (Nat.ne_of_lt lt.z) hz, hk _ _ t4 hT, t1, t2, t3, t4⟩
  ti := hk _ _ (Nat.ne_of_lt lt.TI) x.ti
  h1 := x.h1.at fun o e => hk _ o (Nat.ne_of_lt lt.i1) e
  h2 := x.h2.at fun o e => hk _ o (Nat.ne_of_lt lt.i2) e
  x1 := x.x1.at fun o e => hk _ o (Nat.ne_of_lt lt.l1) e
  x2 := x.x2.at fun o e => hk _ o (Nat.ne_of_lt lt.l2) e
theorem zp_item {x y : Value} {Q : Option Value → Shared → Prop} (D : ZipApart z TI TO i1 i2 l1 l2) (hst : ZpSt s.heap z TI TO i1 i2 l1 l2 S xs ys i) (hS : S < s.heap.objs.size) (hx : xs[i]? = some x) (hy : ys[i]? = some y)
    (hQ : ∀ h', ZpSt h' z TI TO i1 i2 l1 l2 S xs ys (i + 1) → h'.get? s.heap.objs.size = some { cls := .type "tuple", data := .seq #[x, y] } → h'.objs.size = s.heap.objs.size + 1 →
      (∀ c o, c ≠ z → c ≠ TO → c ≠ i1 → c ≠ i2 → s.heap.get? c = some o → h'.get? c = some o) → Q (some (.ref s.heap.objs.size)) { s with heap := h' }) :
    wpAny (model prog w) A (pyNext (.ref z)) Q E s := by
  obtain ⟨own, ti, h1, h2, x1, x2⟩ := hst
  have lt1 : i1 < s.heap.objs.size := by obtain ⟨_, e, _⟩ := h1; exact Heap.lt_size e
  have lt2 : i2 < s.heap.objs.size := by obtain ⟨_, e, _⟩ := h2; exact Heap.lt_size e
  rcases own with ⟨rfl, hz, a, b, hTO⟩ | ⟨T, f, oT, hz, hT, t1, t2, t3, t4⟩
  · refine wpAny_pyNext_zip_item D hz ti hTO h1 h2 x1 x2 hx hy fun h' a1 a2 a3 a4 a5 a6 hk => ?_
    exact hQ h' ⟨.inr ⟨_, false, _, a1, a5, Nat.ne_of_gt (Heap.lt_size hz), Nat.ne_of_gt lt1, Nat.ne_of_gt lt2, Nat.ne_of_gt hS⟩, hk _ _ D.TIz D.TITO D.TIi1 D.TIi2 ti, a3, a4, x1.at fun o e => hk _ o D.l1z D.l1TO D.l1i1 D.l1i2 e, x2.at fun o e => hk _ o D.l2z D.l2TO D.l2i1 D.l2i2 e⟩ a5 a6 hk
  · refine wpAny_pyNext_zip_item_held D hz hT ti h1 h2 x1 x2 hx hy fun h' a1 a3 a4 a5 a6 hk => ?_
    exact hQ h' ⟨.inr ⟨T, true, oT, a1, hk _ _ t1 t2 t3 hT, t1, t2, t3, t4⟩, hk _ _ D.TIz D.TIi1 D.TIi2 ti, a3, a4, x1.at fun o e => hk _ o D.l1z D.l1i1 D.l1i2 e, x2.at fun o e => hk _ o D.l2z D.l2i1 D.l2i2 e⟩ a5 a6 fun c o c1 _ c3 c4 e => hk c o c1 c3 c4 e
theorem zp_done {Q : Option Value → Shared → Prop} (hh : A.handled = none) (D : ZipApart z TI TO i1 i2 l1 l2) (hst : ZpSt s.heap z TI TO i1 i2 l1 l2 S xs ys i) (hx : xs[i]? = none)
    (hQ : ∀ h', (∀ c o, c ≠ z → c ≠ TO → c ≠ i1 → c ≠ i2 → s.heap.get? c = some o → h'.get? c = some o) → Q none { s with heap := h' }) : wpAny (model prog w) A (pyNext (.ref z)) Q E s := by
  obtain ⟨own, ti, h1, h2, x1, x2⟩ := hst
  rcases own with ⟨rfl, hz, a, b, hTO⟩ | ⟨T, f, oT, hz, hT, t1, t2, t3, t4⟩
  · exact wpAny_pyNext_zip_end hh D hz ti hTO h1 h2 x1 x2 (.inl hx) hQ
  · exact wpAny_pyNext_zip_end_held hh D hz hT ti h1 h2 x1 x2 (.inl hx) fun h' hk => hQ h' fun c o c1 _ c3 c4 e => hk c o c1 c3 c4 e
/-- the tuples that came out -/
structure ZpG (xs ys : Array Value) (lo : Addr) (h : Heap) (as : List Addr) : Prop where
  rise : as.Pairwise (· < ·)
  above : ∀ a ∈ as, lo < a
  pairs : ∀ (j : Nat) (a : Addr), as[j]? = some a → ∃ x y, xs[j]? = some x ∧ ys[j]? = some y ∧ h.get? a = some { cls := .type "tuple", data := .seq #[x, y] }
theorem ZpG.there {lo : Addr} {h : Heap} {as : List Addr} (g : ZpG xs ys lo h as) {a : Addr} (ha : a ∈ as) : a < h.objs.size := by
  obtain ⟨j, hj⟩ := List.mem_iff_getElem?.mp ha
  obtain ⟨_, _, _, _, e⟩ := g.pairs j a hj
  exact Heap.lt_size e
end
section
variable {prog : Program} {w : World} {A : Around} {E : Value → Shared → Prop} {s : Shared} {R : Result → Shared → Prop} {z TI TO i1 i2 l1 l2 S : Addr} {xs ys : Array Value} {n : Nat}
theorem zp_loop (hh : A.handled = none) (D : ZipApart z TI TO i1 i2 l1 l2) (lt : ZpLt z TI TO i1 i2 l1 l2 S) (nx : xs.size = n) (ny : ys.size = n) (hn : n ≤ sizeLine) (res : Value) {h₁ : Heap}
    (hR : ∀ h' tk acc c as, (∀ b o, b ≠ S → b ≠ z → b ≠ TO → b ≠ i1 → b ≠ i2 → h₁.get? b = some o → h'.get? b = some o) → h'.get? S = some { cls := .type "list", dict := none, data := .seq acc c, slots := #[] } → as.length = n → ZpG xs ys S h' as →
      acc.toList = as.map Value.ref → R (.ok (.ret res)) { s with heap := h', toks := tk }) :
    ∀ (k i : Nat) (h : Heap) (tk c : Nat) (acc : Array Value) (as : List Addr), n - i = k → i ≤ n → ZpSt h z TI TO i1 i2 l1 l2 S xs ys i → (∀ b o, b ≠ S → b ≠ z → b ≠ TO → b ≠ i1 → b ≠ i2 → h₁.get? b = some o → h.get? b = some o) →
      h.get? S = some { cls := .type "list", dict := none, data := .seq acc c, slots := #[] } → acc.toList = as.map Value.ref → as.length = i → ZpG xs ys S h as →
      codeAny (model prog w) A (.builtin "list.extend.loop" ⟨[.ref S, .ref z, res], []⟩) R { s with heap := h, toks := tk } := by
  have Sz : S ≠ z := Nat.ne_of_gt lt.z
  have STO : S ≠ TO := Nat.ne_of_gt lt.TO
  have S1 : S ≠ i1 := Nat.ne_of_gt lt.i1
  have S2 : S ≠ i2 := Nat.ne_of_gt lt.i2
  intro k
  induction k with
  | zero =>
    intro i h tk c acc as hk hi hst hkeep hS hacc hal hG
    refine codeAny_builtin F.entry_extend_loop ?_
    rw [Around.under_plainId F.plain_extend_loop _]
    show wpAny _ A.in1 (pyNext (.ref z) >>= _) _ _ _
    refine wpAny_bind (zp_done (s := { s with heap := h, toks := tk }) (A := A.in1) hh D hst (Array.getElem?_eq_none (by omega)) fun h' he => ?_)
    have gt : ∀ a ∈ as, a ≠ z ∧ a ≠ TO ∧ a ≠ i1 ∧ a ≠ i2 := fun a ha =>
      have g := hG.above a ha
      ⟨Nat.ne_of_gt (Nat.lt_trans lt.z g), Nat.ne_of_gt (Nat.lt_trans lt.TO g), Nat.ne_of_gt (Nat.lt_trans lt.i1 g), Nat.ne_of_gt (Nat.lt_trans lt.i2 g)⟩
    refine wpAny_pure (hR h' tk acc c as (fun b o h1 h2 h3 h4 h5 e => he b o h2 h3 h4 h5 (hkeep b o h1 h2 h3 h4 h5 e)) (he S _ Sz STO S1 S2 hS) (by omega) ⟨hG.rise, hG.above, fun j a hj => ?_⟩ hacc)
    obtain ⟨x, y, e1, e2, e3⟩ := hG.pairs j a hj
    obtain ⟨g1, g2, g3, g4⟩ := gt a (List.mem_of_getElem? hj)
    exact ⟨x, y, e1, e2, he a _ g1 g2 g3 g4 e3⟩
  | succ k ih =>
    intro i h tk c acc as hk hi hst hkeep hS hacc hal hG
    have hlt : i < n := by omega
    have hx : xs[i]? = some (xs[i]'(by omega)) := Array.getElem?_eq_getElem (by omega)
    have hy : ys[i]? = some (ys[i]'(by omega)) := Array.getElem?_eq_getElem (by omega)
    have hsz : acc.size = i := by rw [← Array.length_toList, hacc, List.length_map, hal]
    refine codeAny_builtin F.entry_extend_loop ?_
    rw [Around.under_plainId F.plain_extend_loop _]
    show wpAny _ A.in1 (pyNext (.ref z) >>= _) _ _ _
    refine wpAny_bind (zp_item (s := { s with heap := h, toks := tk }) (S := S) D hst (Heap.lt_size hS) hx hy fun h' hst' ht hz hkp => ?_)
    dsimp only at ht hz hkp ⊢
    have hS' := hkp S _ Sz STO S1 S2 hS
    have up : ∀ b o, b ≠ S → h'.get? b = some o → (h'.update S (Obj.mapSeq (·.push (Value.ref h.objs.size)))).get? b = some o := fun b o hb e => (Heap.get?_update_other _ _ (Ne.symm hb)).trans e
    have hSl : S < h.objs.size := Heap.lt_size hS
    show wpAny _ A.in1 (updateSeq S (·.push (Value.ref h.objs.size)) >>= _) _ _ _
    refine wpAny_bind ?_
    refine wpAny_updateSeq hS' rfl (wpAny_pure ⟨plainId_quiet F.plain_extend_loop _, ih (i + 1) _ tk _ (acc.push (Value.ref h.objs.size)) (as ++ [h.objs.size]) (by omega) hlt (hst'.keep lt up)
      (fun b o h1 h2 h3 h4 h5 e => up b o h1 (hkp b o h2 h3 h4 h5 (hkeep b o h1 h2 h3 h4 h5 e))) (Heap.get?_update_self _ hS' rfl) (by rw [Array.toList_push, hacc, List.map_append]; rfl) (by rw [List.length_append, hal]; rfl) ⟨?_, ?_, ?_⟩⟩) (by rw [hsz]; omega) (by show (acc.push (Value.ref h.objs.size)).size ≤ sizeLine + 1; rw [Array.size_push, hsz]; omega)
    · refine List.pairwise_append.mpr ⟨hG.rise, List.pairwise_singleton _ _, fun a ha b hb => ?_⟩
      rw [List.mem_singleton.mp hb]
      exact hG.there ha
    · intro a ha
      rcases List.mem_append.mp ha with ha | ha
      · exact hG.above a ha
      · rw [List.mem_singleton.mp ha]; exact hSl
    · intro j b hj
      rcases Nat.lt_trichotomy j as.length with h1 | h1 | h1
      · rw [List.getElem?_append_left h1] at hj
        obtain ⟨x', y', e1, e2, e3⟩ := hG.pairs j b hj
        have hb := hG.above b (List.mem_of_getElem? hj)
        exact ⟨x', y', e1, e2, up b _ (Nat.ne_of_gt hb) (hkp b _ (Nat.ne_of_gt (Nat.lt_trans lt.z hb)) (Nat.ne_of_gt (Nat.lt_trans lt.TO hb)) (Nat.ne_of_gt (Nat.lt_trans lt.i1 hb)) (Nat.ne_of_gt (Nat.lt_trans lt.i2 hb)) e3)⟩
      · subst h1
        have hb : h.objs.size = b := by simpa using hj
        subst hb
        exact ⟨_, _, by rw [hal]; exact hx, by rw [hal]; exact hy, up _ _ (Nat.ne_of_gt hSl) ht⟩
      · have hnone : (as ++ [h.objs.size])[j]? = none := List.getElem?_eq_none (by rw [List.length_append, List.length_singleton]; omega)
        rw [hnone] at hj; cases hj
theorem zp_extend (hh : A.handled = none) (D : ZipApart z TI TO i1 i2 l1 l2) (lt : ZpLt z TI TO i1 i2 l1 l2 S) (nx : xs.size = n) (ny : ys.size = n) (hn : n ≤ sizeLine) (hst : ZpSt s.heap z TI TO i1 i2 l1 l2 S xs ys 0) (hz : IsZip s.heap z TI TO .none) (res : Value) (c₀ : Nat)
    (hS : s.heap.get? S = some { cls := .type "list", data := .seq #[] c₀ })
    (hR : ∀ h' tk acc c as, (∀ b o, b ≠ S → b ≠ z → b ≠ TO → b ≠ i1 → b ≠ i2 → s.heap.get? b = some o → h'.get? b = some o) → h'.get? S = some { cls := .type "list", dict := none, data := .seq acc c, slots := #[] } → as.length = n → ZpG xs ys S h' as →
      acc.toList = as.map Value.ref → R (.ok (.ret res)) { s with heap := h', toks := tk }) :
    wpAny (model prog w) A.in1 (Builtin.List.listExtendWith (.ref S) (.ref z) res)
      (fun fin s' => match fin with | .done f => R (.ok f) s' | .again c' => c'.quiet = true ∧ codeAny (model prog w) A c' R s') (fun e s' => R (.error e) s') s := by
  have hSz : S ≠ z := Nat.ne_of_gt lt.z
  have hT : s.TypeIs (.ref z) "zip" := ⟨_, hz, rfl⟩
  unfold Builtin.List.listExtendWith
  refine wpAny_bind (wpAny_typeOf hT ?_)
  have h1 : Builtin.List.listSameRef (.ref S) (.ref z) = false := by simp [Builtin.List.listSameRef, hSz]
  have h2 : (Value.type "zip" == Value.type "list") = false := by decide
  have h3 : (Value.type "zip" == Value.type "tuple") = false := by decide
  simp only [h1, h2, h3, Bool.or_false, Bool.false_eq_true, if_false]
  refine wpAny_bind (wpAny_pyIter_zip hz ?_)
  refine wpAny_bind (wpAny_holding ?_)
  unfold Builtin.List.listLengthHint
  refine wpAny_bind (wpAny_specialOf hT zip_no_len ?_)
  show wpAny _ A.in1 (specialOf (Value.ref z) (Str.ofString "__length_hint__") >>= _) _ _ _
  refine wpAny_bind (wpAny_specialOf hT zip_no_hint ?_)
  refine wpAny_pure ?_
  show wpAny _ A.in1 (rule "list.extend.makes-room" >>= fun _ => Builtin.List.listTouch (.ref S) >>= fun _ =>
    again (.builtin "list.extend.loop" ⟨[.ref S, .ref z, res], []⟩)) _ _ _
  refine wpAny_bind (wpAny_rule ?_)
  refine wpAny_bind ?_
  show wpAny _ A.in1 (updateSeq S (·.push .none) >>= fun _ => updateSeq S (·.pop)) _ _ _
  refine wpAny_bind (wpAny_updateSeq hS rfl ?_)
  have hS₂ := Heap.get?_update_self (Obj.mapSeq (·.push Value.none)) hS rfl
  refine wpAny_updateSeq (hz := by seq_fits) hS₂ rfl ?_
  have hS₃ := Heap.get?_update_self (Obj.mapSeq (·.pop)) hS₂ rfl
  have oth : ∀ b o, b ≠ S → s.heap.get? b = some o → ((s.heap.update S (Obj.mapSeq (·.push Value.none))).update S (Obj.mapSeq (·.pop))).get? b = some o :=
    fun b o hb e => (Heap.get?_update_other _ _ (Ne.symm hb)).trans ((Heap.get?_update_other _ _ (Ne.symm hb)).trans e)
  refine wpAny_pure ⟨plainId_quiet F.plain_extend_loop _, ?_⟩
  exact zp_loop (s := s) (h₁ := s.heap) hh D lt nx ny hn res hR n 0 _ s.toks _ #[] [] (Nat.sub_zero _) (Nat.zero_le _) (hst.keep lt oth) (fun b o h1 _ _ _ _ e => oth b o h1 e) hS₃ rfl rfl ⟨List.Pairwise.nil, (fun _ ha => nomatch ha), (fun j a hj => by simp at hj)⟩
theorem zp_init (hh : A.handled = none) (D : ZipApart z TI TO i1 i2 l1 l2) (lt : ZpLt z TI TO i1 i2 l1 l2 S) (nx : xs.size = n) (ny : ys.size = n) (hn : n ≤ sizeLine) (hst : ZpSt s.heap z TI TO i1 i2 l1 l2 S xs ys 0) (hz : IsZip s.heap z TI TO .none)
    (hS : s.heap.get? S = some { cls := .type "list", data := .seq #[] })
    (hR : ∀ h' tk acc c as, (∀ b o, b ≠ S → b ≠ z → b ≠ TO → b ≠ i1 → b ≠ i2 → s.heap.get? b = some o → h'.get? b = some o) → h'.get? S = some { cls := .type "list", dict := none, data := .seq acc c, slots := #[] } → as.length = n → ZpG xs ys S h' as →
      acc.toList = as.map Value.ref → R (.ok (.ret .none)) { s with heap := h', toks := tk }) :
    wpAny (model prog w) A.in1 (Builtin.«list.__init__» ⟨[.ref S, .ref z], []⟩)
      (fun fin s' => match fin with | .done f => R (.ok f) s' | .again c' => c'.quiet = true ∧ codeAny (model prog w) A c' R s') (fun e s' => R (.error e) s') s := by
  show wpAny _ A.in1 (do let old ← Builtin.List.listItems (.ref S); Builtin.List.listUpdate (.ref S) (fun _ => #[]); letGo old.toList.reverse; Builtin.List.listExtendWith (.ref S) (.ref z) .none) _ _ s
  refine wpAny_bind ?_
  unfold Builtin.List.listItems
  refine wpAny_bind (wpAny_seqItems hS rfl (wpAny_pure ?_))
  show wpAny _ A.in1 (updateSeq S (fun _ => #[]) >>= fun _ => letGo (#[] : Array Value).toList.reverse >>= fun _ => Builtin.List.listExtendWith (.ref S) (.ref z) .none) _ _ s
  refine wpAny_bind (wpAny_updateSeq hS rfl ?_)
  have hS₂ := Heap.get?_update_self (Obj.mapSeq (fun _ => (#[] : Array Value))) hS rfl
  have oth : ∀ b o, b ≠ S → s.heap.get? b = some o → (s.heap.update S (Obj.mapSeq (fun _ => (#[] : Array Value)))).get? b = some o :=
    fun b o hb e => (Heap.get?_update_other _ _ (Ne.symm hb)).trans e
  refine wpAny_bind (wpAny_letGo ?_)
  refine zp_extend (s := { s with heap := s.heap.update S (Obj.mapSeq (fun _ => (#[] : Array Value))) }) hh D lt nx ny hn (hst.keep lt oth) (oth _ _ (Ne.symm (Nat.ne_of_gt lt.z)) hz) .none _ hS₂ fun h' tk acc c as hk hS' hl hG hacc => ?_
  exact hR h' tk acc c as (fun b o h1 h2 h3 h4 h5 e => hk b o h1 h2 h3 h4 h5 (oth b o h1 e)) hS' hl hG hacc
theorem zp_call {Q : Value → Shared → Prop} (hh : A.handled = none) (D : ZipApart z TI TO i1 i2 l1 l2) (lt : ZpLt z TI TO i1 i2 l1 l2 s.heap.objs.size) (nx : xs.size = n) (ny : ys.size = n) (hn : n ≤ sizeLine) (hst : ZpSt s.heap z TI TO i1 i2 l1 l2 s.heap.objs.size xs ys 0) (hz : IsZip s.heap z TI TO .none)
    (hQ : ∀ h' tk acc c as, (∀ b o, b ≠ z → b ≠ TO → b ≠ i1 → b ≠ i2 → s.heap.get? b = some o → h'.get? b = some o) → h'.get? s.heap.objs.size = some { cls := .type "list", dict := none, data := .seq acc c, slots := #[] } → as.length = n → ZpG xs ys s.heap.objs.size h' as →
      acc.toList = as.map Value.ref → Q (.ref s.heap.objs.size) { s with heap := h', toks := tk }) :
    wpAny (model prog w) A (call (.type "list") [.ref z]) Q E s := by
  refine callType_codes (Q₁ := fun obj s₁ => obj = .ref s.heap.objs.size ∧ s₁ = { s with heap := s.heap.push { cls := .type "list", data := .seq #[] } }) F.called_list (F.typeCall_list_1 _) F.entry_list_init
    (code_list_new _ ⟨rfl, rfl⟩) fun obj s₁ h₁ => ?_
  obtain ⟨rfl, rfl⟩ := h₁
  have hS : (s.heap.push { cls := .type "list", data := .seq #[] }).get? s.heap.objs.size = some { cls := .type "list", data := .seq #[] } := Heap.get?_push_size _ rfl
  have oth : ∀ b o, b ≠ s.heap.objs.size → s.heap.get? b = some o → (s.heap.push { cls := .type "list", data := .seq #[] }).get? b = some o := fun b o _ e => Heap.get?_push_of_some _ e
  refine ⟨⟨_, hS, rfl⟩, F.args_list_init_2 _ _, zp_init (A := A.in1) (s := { s with heap := s.heap.push { cls := .type "list", data := .seq #[] } }) hh D lt nx ny hn (hst.keep lt oth) (oth _ _ (Nat.ne_of_lt lt.z) hz) hS fun h' tk acc c as hk hS' hl hG hacc => ?_⟩
  exact ⟨rfl, hQ h' tk acc c as (fun b o h2 h3 h4 h5 e => hk b o (Nat.ne_of_lt (Heap.lt_size e)) h2 h3 h4 h5 (Heap.get?_push_of_some _ e)) hS' hl hG hacc⟩
end
end ZpL

/-! list(zip(a, b)), a and b lists of data as long as each other. -/
namespace PD
open PySem PySem.Spec PyProof.Rows L2 ZpL
def putZ : Hp → List Addr → List (V × V) → Hp
  | H, a :: as, p :: kvs => putZ (upd H a (.tup [p.1, p.2])) as kvs
  | H, _, _ => H
theorem putZ_off {b : Addr} : ∀ (as : List Addr) (kvs : List (V × V)) (H : Hp), b ∉ as → putZ H as kvs b = H b
  | [], _, _, _ => rfl
  | _ :: _, [], _, _ => rfl
  | a :: as, p :: kvs, H, h => by
    show putZ (upd H a (.tup [p.1, p.2])) as kvs b = H b
    rw [putZ_off as kvs _ (fun z => h (List.mem_cons_of_mem _ z)), upd_ne (fun z => h (by rw [z]; exact List.mem_cons_self))]
theorem putZ_at : ∀ (as : List Addr) (kvs : List (V × V)) (H : Hp), as.length = kvs.length → as.Nodup → Paired (fun (t : Addr) (p : V × V) => putZ H as kvs t = some (.tup [p.1, p.2])) as kvs
  | [], [], _, _, _ => .nil
  | [], _ :: _, _, h, _ => by cases h
  | _ :: _, [], _, h, _ => by cases h
  | a :: as, p :: kvs, H, h, hn => by
    have hn' := List.nodup_cons.mp hn
    have ih := putZ_at as kvs (upd H a (.tup [p.1, p.2])) (Nat.succ.inj h) hn'.2
    refine .cons ?_ ih
    show putZ (upd H a (.tup [p.1, p.2])) as kvs a = some (.tup [p.1, p.2])
    rw [putZ_off as kvs _ hn'.1, upd_same]
theorem vals_at : ∀ {vs : List V} {us : List Value}, Vals vs us → ∀ {i : Nat} {v : V}, vs[i]? = some v → ∃ u, us[i]? = some u ∧ RelV v u
  | _, _, .nil, i, v, h => by simp at h
  | _, _, .cons r t, 0, v, h => by
    cases Option.some.inj h
    exact ⟨_, rfl, r⟩
  | _, _, .cons r t, i + 1, v, h => vals_at t h
def tListZip (K : PySem.W.Frag) (ta : TA) : TE := fun σ H Q => ta σ H fun xs H1 => ∃ a b as bs, xs = [.ref a, .ref b] ∧ SqL K H1 a as ∧ SqL K H1 b bs ∧ bs.length = as.length ∧ as.length ≤ 100000 ∧
  ∀ (H' : Hp) (p : Addr) (ts : List Addr), (∀ c o, H1 c = some o → H' c = some o) → H1 p = none → (∀ t ∈ ts, H1 t = none) → p ∉ ts → H' p = some (.lst (ts.map V.ref)) → Paired (fun (t : Addr) (q : V × V) => H' t = some (.tup [q.1, q.2])) ts (as.zip bs) → Q (.ref p) H'
section
variable {X : Cx}
theorem zip_laid {pins : List (Addr × Obj)} {σ : L2.St} {H : Hp} {s : Shared} {h' : Heap} {tk : Nat} {vs ws : List V} {ia ib : List Value} {acc : Array Value} {c : Nat} {as : List Addr} {S : Addr} (I : Inv X pins σ H s) (hz : vs.length ≤ sizeLine) (va : Vals vs ia) (vb : Vals ws ib) (hlen : ws.length = vs.length)
    (hk : ∀ b o, s.heap.get? b = some o → h'.get? b = some o) (hSz : s.heap.objs.size ≤ S) (hS : h'.get? S = some { cls := .type "list", dict := none, data := .seq acc c, slots := #[] }) (hl : as.length = vs.length) (hG : ZpG ia.toArray ib.toArray S h' as) (hacc : acc.toList = as.map Value.ref) :
    ∃ H' : Hp, (∀ b o, H b = some o → H' b = some o) ∧ H S = none ∧ (∀ t ∈ as, H t = none) ∧ S ∉ as ∧ H' S = some (.lst (as.map V.ref)) ∧ Paired (fun (t : Addr) (q : V × V) => H' t = some (.tup [q.1, q.2])) as (vs.zip ws) ∧ Inv X pins σ H' { s with heap := h', toks := tk } := by
  have lz : (vs.zip ws).length = vs.length := by rw [List.length_zip, hlen, Nat.min_self]
  have hSn : S ∉ as := fun z => Nat.lt_irrefl _ (hG.above _ z)
  have nd : as.Nodup := List.Pairwise.imp (fun {a b} (h : a < b) => Nat.ne_of_lt h) hG.rise
  have new : ∀ t ∈ as, H t = none := fun t ht => I.hok.fresh (Nat.le_of_lt (Nat.lt_of_le_of_lt hSz (hG.above t ht)))
  have newS : H S = none := I.hok.fresh hSz
  have atP := putZ_at as (vs.zip ws) (upd H S (.lst (as.map V.ref))) (by omega) nd
  have off : ∀ b, b ∉ as → b ≠ S → putZ (upd H S (.lst (as.map V.ref))) as (vs.zip ws) b = H b := fun b h1 h2 => by rw [putZ_off as _ _ h1, upd_ne h2]
  have low : ∀ b o, s.heap.get? b = some o → b ∉ as ∧ b ≠ S := fun b o e => ⟨fun z => absurd (Nat.lt_of_lt_of_le (Heap.lt_size e) hSz) (Nat.not_lt.mpr (Nat.le_of_lt (hG.above b z))), Nat.ne_of_lt (Nat.lt_of_lt_of_le (Heap.lt_size e) hSz)⟩
  have kp : ∀ b u, H b = some u → (putZ (upd H S (.lst (as.map V.ref))) as (vs.zip ws)) b = some u := fun b u e => by
    rw [off b (fun z => by rw [new b z] at e; cases e) (fun z => by rw [z, newS] at e; cases e)]
    exact e
  have eS : putZ (upd H S (.lst (as.map V.ref))) as (vs.zip ws) S = some (.lst (as.map V.ref)) := by rw [putZ_off as _ _ hSn, upd_same]
  refine ⟨putZ (upd H S (.lst (as.map V.ref))) as (vs.zip ws), kp, newS, new, hSn, eS, atP, ?_⟩
  refine I.call' (ch := []) rfl ⟨fun b o q _ _ _ => hk b o q, fun b o q _ _ _ => ⟨o.slots, hk b o q⟩, fun b o q n _ => ?_, fun b o q _ => ⟨o, hk b o q⟩, fun b xs q => kp b _ q, fun b o u q => kp b _ q, fun b ps q => ⟨#[], by rw [kp b _ q]; simp⟩⟩ (fun b u q => ?_) I.bare fun b z => by simp at z
  · obtain ⟨z1, z2⟩ := low b o q
    rw [off b z1 z2]
    exact n
  · by_cases hb : b ∈ as
    · obtain ⟨j, pk, e1, e2, e3⟩ := LiI.paired_ix atP hb
      rw [e3] at q
      cases q
      obtain ⟨x, y, f1, f2, f3⟩ := hG.pairs j b e1
      rw [List.getElem?_zip_eq_some] at e2
      obtain ⟨u1, g1, r1⟩ := vals_at va e2.1
      obtain ⟨u2, g2, r2⟩ := vals_at vb e2.2
      have f1 : ia[j]? = some x := by simpa using f1
      have f2 : ib[j]? = some y := by simpa using f2
      rw [f1] at g1
      rw [f2] at g2
      cases g1
      cases g2
      exact ⟨by show 2 ≤ sizeLine; decide, [x, y], .cons r1 (.cons r2 .nil), ⟨_, f3, rfl, _, rfl⟩⟩
    · by_cases hb2 : b = S
      · rw [hb2] at q ⊢
        rw [eS] at q
        cases q
        refine ⟨by rw [List.length_map]; omega, acc.toList, c, by rw [hacc]; exact LiI.vals_refs as, ?_⟩
        rw [Array.toArray_toList]
        exact hS
      · rw [off b hb hb2] at q
        exact (I.hok b u q).stay (fun d v _ y => hk d v y) (fun d y => kp d _ y) fun d xs y => kp d _ y
theorem pe_listzip {x y : Expr} {p p2 pos pos2 : Pos} {ta : TA} (hc : X.calm = true) (ha : PA X [x, y] ta) (g1 : Gl X "list") (g2 : Gl X "zip") (m1 : X.mg "list" = none) (m2 : X.mg "zip" = none)
    (e1 : starEach [x, y] X.env = (false, eval x X.env) :: starEach [y] X.env) (e2 : (backTo pos2 (starEach [y] X.env)).any (·.1) = false) (e3 : starEach [.Call (.Name "zip" p2) [x, y] [] pos2] X.env = [(false, eval (.Call (.Name "zip" p2) [x, y] [] pos2) X.env)]) :
    PE X (.Call (.Name "list" p) [.Call (.Name "zip" p2) [x, y] [] pos2] [] pos) (tListZip X.K ta) := by
  refine ⟨fun pins s σ H Q I h => wpAny_Call_Name_kw (ld_blt (u := .type "list") I g1 m1 (by decide +kernel) ?_ (by decide) (by decide))⟩
  refine PyProof.Rows.callWith_type1 ?_ (by rw [e3]; rfl) (by rfl)
  have inner : wpAny (model X.prog X.w) X.A (eval (.Call (.Name "zip" p2) [x, y] [] pos2) X.env) (fun v s1 => wpAny (model X.prog X.w) X.A (call (.type "list") [v]) (EP X pins σ Q) X.xe s1) X.xe s := by
    refine wpAny_Call_Name_kw (ld_blt (u := .type "zip") I g2 m2 (by decide +kernel) ?_ (by decide) (by decide))
    refine PyProof.Rows.callWith_type1 (thn (ha.run pos2 pins s σ H _ I h) fun us s1 ⟨xs, H1, I1, r1, a, b, as, bs, ex, la, lb, hl, hz, q⟩ => ?_) e1 e2
    subst ex
    cases r1 with
    | cons q1 t1 =>
      cases t1 with
      | cons q2 t2 =>
        cases t2
        cases q1
        cases q2
        obtain ⟨ia, va, pa, _⟩ := I1.list la
        obtain ⟨ib, vb, pb, _⟩ := I1.list lb
        have la' : ia.length = as.length := by rw [← va.length]
        have lb' : ib.length = as.length := by rw [← vb.length, hl]
        refine call_zip_2 pa.isList pb.isList fun h' z1 z2 z3 z4 z5 z6 z7 => ?_
        have l1 : a < s1.heap.objs.size := by obtain ⟨o, n, e, _⟩ := pa; exact Heap.lt_size e
        have l2 : b < s1.heap.objs.size := by obtain ⟨o, n, e, _⟩ := pb; exact Heap.lt_size e
        have D : ZipApart (s1.heap.objs.size + 4) (s1.heap.objs.size + 2) (s1.heap.objs.size + 3) s1.heap.objs.size (s1.heap.objs.size + 1) a b := by
          constructor <;> (intro z; simp only [Addr] at *; omega)
        have LT : ZpLt (s1.heap.objs.size + 4) (s1.heap.objs.size + 2) (s1.heap.objs.size + 3) s1.heap.objs.size (s1.heap.objs.size + 1) a b h'.objs.size := by
          constructor <;> (simp only [Addr] at *; omega)
        have I2 : Inv X pins σ H1 { s1 with heap := h' } := I1.kept (t' := s1.toks) z7
        have hzl : as.length ≤ sizeLine := by rw [sizeLine_eq]; omega
        refine zp_call (s := { s1 with heap := h' }) (xs := ia.toArray) (ys := ib.toArray) (n := as.length) (I1.ok.hd hc) D LT (by rw [List.size_toArray, la']) (by rw [List.size_toArray, lb']) hzl ⟨.inl ⟨rfl, z1, _, _, z3⟩, z2, z4, z5, (pa.isList).at fun o e => z7 _ o e, (pb.isList).at fun o e => z7 _ o e⟩ z1 fun h9 tk acc c ts hk9 hS hlt hG hacc => ?_
        have hk : ∀ b o, s1.heap.get? b = some o → h9.get? b = some o := fun b o e => by
          have lb := Heap.lt_size e
          refine hk9 b o ?_ ?_ ?_ ?_ (z7 b o e) <;> (intro z; rw [z] at lb; simp only [Addr] at *; omega)
        obtain ⟨H', k1, k2, k3, k4, k5, k6, J⟩ := zip_laid (tk := tk) I1 hzl va vb hl hk (show s1.heap.objs.size ≤ h'.objs.size by omega) hS hlt hG hacc
        exact ⟨.ref _, H', J, rfl, q H' _ ts k1 k2 k3 k4 k5 k6⟩
  rw [e3]
  exact Calls.spliced_cons (thn inner fun v s1 h1 => Calls.spliced_nil h1)
end
end PD

/-! list(zip(a, b)) of data. -/
namespace PD
open PySem PySem.Spec PyProof.Rows L2
def zipD (ks vs : List DV) : List DV := (ks.zip vs).map fun p => .tup [p.1, p.2]
theorem rpa_zip {K : PySem.W.Frag} {S1 S2 H' : Hp} (e : Ex S1 S2) : ∀ {as bs : List V} {ks vs : List DV} {ts : List Addr}, (∀ t ∈ ts, S2 t = H' t) → RpA K S1 as ks → RpA K S1 bs vs → Paired (fun (t : Addr) (q : V × V) => H' t = some (.tup [q.1, q.2])) ts (as.zip bs) → RpA K S2 (ts.map V.ref) (zipD ks vs)
  | [], bs, _, vs, ts, hs, .nil, r2, p => by
    rw [List.zip_nil_left] at p
    cases p
    rw [zipD, List.zip_nil_left]
    exact .nil
  | a :: as, [], _, _, ts, hs, .cons r1 rs1, .nil, p => by
    rw [List.zip_nil_right] at p
    cases p
    rw [zipD, List.zip_nil_right]
    exact .nil
  | a :: as, b :: bs, _, _, ts, hs, .cons r1 rs1, .cons r2 rs2, p => by
    rw [List.zip_cons_cons] at p
    cases p with
    | cons h t =>
      rw [zipD, List.zip_cons_cons, List.map_cons, List.map_cons]
      refine .cons (.tup (.inl (.inl ((hs _ (List.mem_cons_self ..)).trans h))) (.cons (r1.up e) (.cons (r2.up e) .nil))) (rpa_zip e (fun t ht => hs t (List.mem_cons_of_mem _ ht)) rs1 rs2 t)
section
variable {g : Gb} {l : Lc} {ρ : Rho} {x y : Expr} {ks vs : List DV} {p p2 pos pos2 : Pos}
theorem ev_listzip {K : PySem.W.Frag} {ta : TA} (h : EvA K ta ρ [.lst ks, .lst vs]) (hl : vs.length = ks.length) (hz : ks.length ≤ 100000) : EvD K (tListZip K ta) ρ (.lst (zipD ks vs)) := fun H0 σ S H e n Q q =>
  h H0 σ S H e n _ fun us S1 H1 g1 r1 => by
    cases r1 with
    | cons q1 t1 =>
      cases t1 with
      | cons q2 t2 =>
        cases t2
        cases q1 with
        | lst s1 a1 =>
          cases q2 with
          | lst s2 a2 =>
            refine ⟨_, _, _, _, rfl, .inl (ex_rd g1.sub s1), .inl (ex_rd g1.sub s2), by rw [a2.len, a1.len]; exact hl, by rw [a1.len]; exact hz, fun H' D ts k1 k2 k3 k4 k5 k6 => ?_⟩
            let S2 : Hp := fun c => if c = D ∨ c ∈ ts then H' c else S1 c
            have in2 : ∀ c, (c = D ∨ c ∈ ts) → S2 c = H' c := fun c z => if_pos z
            have out2 : ∀ c, ¬ (c = D ∨ c ∈ ts) → S2 c = S1 c := fun c z => if_neg z
            have nw : ∀ c, (c = D ∨ c ∈ ts) → H1 c = none := fun c z => by
              rcases z with z | z
              · rw [z]; exact k2
              · exact k3 c z
            have e12 : Ex S1 S2 := fun c o z => by
              rw [out2 c (fun w => by have := g1.sub c o z; rw [nw c w] at this; cases this)]
              exact z
            have g2 : Go S1 H1 S2 H' := ⟨e12, k1, fun c o z => by
              by_cases w : c = D ∨ c ∈ ts
              · rw [in2 c w] at z; exact z
              · rw [out2 c w] at z; exact k1 c o (g1.sub c o z), fun c o z m => by
              by_cases w : c = D ∨ c ∈ ts
              · exact nw c w
              · rw [out2 c w, m] at z; cases z⟩
            exact q _ S2 H' (g1.tr g2) (.lst (.inl ((in2 D (.inl rfl)).trans k5)) (rpa_zip e12 (fun t ht => in2 t (.inr ht)) a1 a2 k6))
theorem de_listzip (m1 : g.mg "list" = none) (m2 : g.mg "zip" = none) (hx : DE g l x ρ (.lst ks)) (hy : DE g l y ρ (.lst vs)) (hl : vs.length = ks.length) (hz : ks.length ≤ 100000)
    (g1 : GlN l "list" := by rfl) (g2 : GlN l "zip" := by rfl) (s1 : ∀ env, starEach [x, y] env = (false, eval x env) :: starEach [y] env := by intro _; rfl) (s2 : ∀ env, starEach [y] env = (false, eval y env) :: starEach [] env := by intro _; rfl) (hcl : l.cb = true := by rfl) :
    DE g l (.Call (.Name "list" p) [.Call (.Name "zip" p2) [x, y] [] pos2] [] pos) ρ (.lst (zipD ks vs)) :=
  DE.by (tListZip g.K (UA g l [x, y])) (fun X o => by
    have := pe_listzip (p := p) (p2 := p2) (pos := pos) (pos2 := pos2) (o.calm hcl) (UA.pa o [x, y]) (o.gl g1) (o.gl g2) (by rw [o.mg]; exact m1) (by rw [o.mg]; exact m2) (s1 _) (by rw [s2 X.env]; rfl) (by rfl)
    rw [o.K] at this
    exact this) (ev_listzip (da_cons hx (da_cons hy da_nil s2) s1) hl hz)
end
end PD

/-! _law_is_at: over a session that is lent. -/
namespace SP
open PySem PySem.Spec PyProof.Rows L2 PD
variable {g : Gb} {C CS CSc : Addr}
theorem ok_lstD {xs : List DV} (h : ∀ d ∈ xs, d.plain = true ∧ d.dep ≤ 20) : (DV.lst xs).ok = true := by
  have go : ∀ xs : List DV, (∀ d ∈ xs, d.plain = true ∧ d.dep ≤ 20) → plainAll xs = true ∧ depAll xs ≤ 20 := by
    intro xs
    induction xs with
    | nil => exact fun _ => ⟨by rw [plainAll], by rw [depAll]; decide⟩
    | cons x xs ih =>
      intro h
      obtain ⟨a, b⟩ := ih fun d hd => h d (List.mem_cons_of_mem _ hd)
      obtain ⟨a', b'⟩ := h x (List.mem_cons_self ..)
      refine ⟨by rw [plainAll, a, a']; rfl, ?_⟩
      rw [depAll]
      exact Nat.max_le.mpr ⟨b', b⟩
  obtain ⟨a, b⟩ := go xs h
  unfold DV.ok
  rw [DV.plain, a, DV.dep, Bool.true_and]
  exact decide_eq_true (by omega)
theorem str_pl {z : Str} (h : PyData.strOk z = true) : (DV.str z).plain = true ∧ (DV.str z).dep ≤ 0 := by
  rw [DV.plain, DV.dep]
  exact ⟨h, Nat.le_refl _⟩
theorem tup2_pl {a b : DV} {n : Nat} (ha : a.plain = true ∧ a.dep ≤ n) (hb : b.plain = true ∧ b.dep ≤ n) : (DV.tup [a, b]).plain = true ∧ (DV.tup [a, b]).dep ≤ n + 1 := by
  rw [DV.plain, plainAll, plainAll, plainAll, DV.dep, depAll, depAll, depAll, ha.1, hb.1]
  refine ⟨rfl, ?_⟩
  have := ha.2
  have := hb.2
  omega
theorem ed_pl {ps : List Str} {od : List Nat} {e : Ed} (h : okEd "ab" ps od e) : e.d.plain = true ∧ e.d.dep ≤ 3 := by
  cases e with
  | aim t =>
    have a := str_pl (show PyData.strOk ("aim" : Str) = true by decide +kernel)
    have b := str_pl (word_ok (.inl rfl) h)
    have := tup2_pl a b
    exact ⟨this.1, Nat.le_trans this.2 (by decide)⟩
  | wr w =>
    have a := str_pl (show PyData.strOk ("write" : Str) = true by decide +kernel)
    have b := wr_plain (.inl rfl) h.1
    exact tup2_pl (n := 2) ⟨a.1, Nat.le_trans a.2 (by decide)⟩ b
theorem ans_pl {tn : Bool} {s : Sx} {e : Ed} : (ansE tn s e).plain = true ∧ (ansE tn s e).dep ≤ 3 := by
  have n : (DV.non).plain = true ∧ (DV.non).dep ≤ 3 := by rw [DV.plain, DV.dep]; decide
  have st : ∀ z : Str, PyData.strOk z = true → (DV.str z).plain = true ∧ (DV.str z).dep ≤ 3 := fun z hz => ⟨(str_pl hz).1, Nat.le_trans (str_pl hz).2 (by decide)⟩
  unfold ansE
  cases e with
  | aim t => exact n
  | wr w =>
    by_cases h1 : safeOf s.1 s.2.1 w tn (s.2.2.getD (textOf s.1 s.2.1)) = true
    · by_cases h2 : textOf (afterP s.1 w) (afterO s.2.1 w) = textOf s.1 s.2.1
      · have e : edRes tn s.1 s.2.1 s.2.2 (.wr w) = (afterP s.1 w, afterO s.2.1 w, s.2.2, .str "old") := (if_pos h1).trans (if_pos h2)
        rw [e]
        exact st "old" (by decide +kernel)
      · have e : edRes tn s.1 s.2.1 s.2.2 (.wr w) = (afterP s.1 w, afterO s.2.1 w, none, .str "new") := (if_pos h1).trans (if_neg h2)
        rw [e]
        exact st "new" (by decide +kernel)
    · have e : edRes tn s.1 s.2.1 s.2.2 (.wr w) = (s.1, s.2.1, s.2.2, .str "no") := if_neg h1
      rw [e]
      exact st "no" (by decide +kernel)
def jouOf (tn : Bool) (s : Sx) (es : List Ed) : List DV := (List.range es.length).map fun i => .tup [(es.getD i (.aim "")).d, ansE tn (stAt tn s es i) (es.getD i (.aim ""))]
theorem eds_range (es : List Ed) : es.map Ed.d = (List.range es.length).map fun i => (es.getD i (.aim "")).d := by
  refine List.ext_getElem? fun i => ?_
  rw [List.getElem?_map, List.getElem?_map]
  by_cases h : i < es.length
  · rw [List.getElem?_range h, List.getElem?_eq_getElem h]
    show some es[i].d = some (es.getD i _).d
    rw [List.getD_eq_getElem?_getD, List.getElem?_eq_getElem h]
    rfl
  · rw [List.getElem?_eq_none (by omega), List.getElem?_eq_none (by rw [List.length_range]; omega)]
    rfl
theorem zip_maps {α β γ : Type} (f : α → β) (h : α → γ) : ∀ l : List α, (l.map f).zip (l.map h) = l.map fun x => (f x, h x)
  | [] => rfl
  | x :: l => by rw [List.map_cons, List.map_cons, List.map_cons, List.zip_cons_cons, zip_maps f h l]
theorem jou_zip (tn : Bool) (s : Sx) (es : List Ed) : zipD (es.map Ed.d) (anssOf tn s es) = jouOf tn s es := by
  unfold zipD anssOf jouOf
  rw [eds_range, zip_maps, List.map_map]
  rfl
theorem jou_ok {tn : Bool} {s : Sx} {es : List Ed} (h : okEds "ab" tn s es) : (DV.lst (jouOf tn s es)).ok = true := ok_lstD fun d hd => by
  unfold jouOf at hd
  rw [List.mem_map] at hd
  obtain ⟨i, hi, rfl⟩ := hd
  rw [List.mem_range] at hi
  have he : es[i]? = some (es.getD i (.aim "")) := by
    rw [List.getD_eq_getElem?_getD, List.getElem?_eq_getElem hi]
    rfl
  have := tup2_pl (n := 3) (ed_pl (okEds_get h he)) (ans_pl (tn := tn) (s := stAt tn s es i) (e := es.getD i (.aim "")))
  exact ⟨this.1, Nat.le_trans this.2 (by decide)⟩
/-- the moments, part by part -/
def momT (C : Addr) (pp op : Int) (tn : Bool) (s : Sx) (es : List Ed) : List Mom := (List.range es.length).map fun i => (fileS C "ab" pp op tn (stepE tn (stAt tn s es i) (es.getD i (.aim ""))), aimD (stepE tn (stAt tn s es i) (es.getD i (.aim ""))).2.2, .tup [(es.getD i (.aim "")).d, ansE tn (stAt tn s es i) (es.getD i (.aim ""))])
theorem momT_d (C : Addr) (pp op : Int) (tn : Bool) (s : Sx) (es : List Ed) : (momT C pp op tn s es).map Mom.d = momsOf C "ab" pp op tn s es := by
  unfold momT momsOf
  rw [List.map_map]
  rfl
theorem momT_j (C : Addr) (pp op : Int) (tn : Bool) (s : Sx) (es : List Ed) : (momT C pp op tn s es).map (fun m => m.2.2) = jouOf tn s es := by
  unfold momT jouOf
  rw [List.map_map]
  rfl
theorem momT_len {C : Addr} {pp op : Int} {tn : Bool} {s : Sx} {es : List Ed} : (momT C pp op tn s es).length = es.length := by
  unfold momT
  rw [List.length_map, List.length_range]
theorem ok_aimD {ls : Str} {am : Option Str} (hl : letterSet ls) (h : okAim ls am) : (aimD am).ok = true := by
  cases am with
  | none => rfl
  | some a => exact okS (word_ok hl (h a rfl))
theorem ok_stD {ls : Str} {ps : List Str} {od : List Nat} (v : VS ls ps od) : (stD ps od).ok = true := by
  unfold stD DV.ok
  rw [DV.plain, plainAll, plainAll, plainAll, DV.plain, DV.plain, plain_psD v.str, plain_odD, DV.dep, depAll, depAll, depAll, DV.dep, DV.dep, dep_psD, dep_odD]
  decide
abbrev liN : List Str := ["_law_session", "_law_file_here", "_law_edits_here", "_law_state_here", "_law_aim", "_law_answers", "_law_here"]
theorem scLIs : FnScope liN ["_law_session", "_law_file_here", "_law_edits_here"] (defScope s__law_is_at) := ⟨rfl, rfl, rfl, by decide +kernel, rfl, by decide +kernel, by decide +kernel⟩
def R_lisat (C CS CSc : Addr) : List DV → DV → Prop := fun ds d => ∃ ps od pp op tn es pr out, VF "ab" ps od pp op ∧ okEds "ab" tn (ps, od, none) es ∧ es.length ≤ 900 ∧ ds = [sesD CS CSc (momD (fileD C "ab" ps od pp op tn) .non pr :: momsOf C "ab" pp op tn (ps, od, none) es) out, fileD C "ab" ps od pp op tn, .lst (es.map Ed.d)] ∧ d = .bl true
theorem ok_lisat (B : Bt g) (L : Fl g C) (P : Fp g C) (mz : g.mg "zip" = none) (ml : g.mg "list" = none) (S : Ssl g CS CSc) (Cu : Pr g 1 CS "current" (R_scur CS CSc)) (Ai : Pr g 1 CS "aim" (R_saim CS CSc)) (Jo : Pr g 1 CS "journal" (R_sjou CS CSc)) (Ln : Lo g 3 CS (R_slen CS CSc)) (Do : Fn g 4 "_law_done" (R_ldn C)) {f : Addr} {fd : FuncData} (F : Fun g.K "_law_is_at" "_law_is_at" s__law_is_at f fd) :
    FnOk g.P g.w g.K g.mg g.base CX0 5 f fd ["_law_session", "_law_file_here", "_law_edits_here"] (spR g.K (R_lisat C CS CSc)) := by
  refine fn_ok F scLIs (fun ds d ⟨_, _, _, _, _, _, _, _, _, _, _, e, _⟩ => by rw [e]; rfl) fun ds d ⟨ps, od, pp, op, tn, es, pr, out, v, he, hl, e, ed⟩ => ?_
  subst e ed
  have k0 : okSx "ab" pp op (ps, od, none) := ⟨v, fun t e => by cases e⟩
  have ke := okSx_at es.length k0 he
  obtain ⟨ms0, pr2, hh⟩ := hist_at (C := C) (ls := "ab") (pp := pp) (op := op) (tn := tn) (ms := [momD (fileD C "ab" ps od pp op tn) .non pr]) (s := (ps, od, none)) (es := es) ⟨[], pr, rfl⟩ es.length (Nat.le_refl _)
  rw [List.take_of_length_le (by rw [momsOf_len]; exact Nat.le_refl _)] at hh
  have hh : momD (fileD C "ab" ps od pp op tn) .non pr :: momsOf C "ab" pp op tn (ps, od, none) es = ms0 ++ [momD (fileS C "ab" pp op tn (stAt tn (ps, od, none) es es.length)) (aimD (stAt tn (ps, od, none) es es.length).2.2) pr2] := hh
  have hj : sesD CS CSc (momD (fileD C "ab" ps od pp op tn) .non pr :: momsOf C "ab" pp op tn (ps, od, none) es) out = sesD CS CSc (momD (fileD C "ab" ps od pp op tn) .non pr :: (momT C pp op tn (ps, od, none) es).map Mom.d) out := by rw [momT_d]
  have hjA : [sesD CS CSc (momD (fileD C "ab" ps od pp op tn) .non pr :: momsOf C "ab" pp op tn (ps, od, none) es) out] = [sesD CS CSc (momD (fileD C "ab" ps od pp op tn) .non pr :: (momT C pp op tn (ps, od, none) es).map Mom.d) out] := by rw [hj]
  have hjl : (momT C pp op tn (ps, od, none) es).length ≤ 1000 := by rw [momT_len]; omega
  have oj := jou_ok he
  refine dss_cons (ds_asg (d := doneD tn (ps, od, none) es) (de_call Do (da_cons (de_v 1) (da_cons (de_v 2) da_nil)) ⟨ps, od, pp, op, tn, es, v, he, by omega, rfl, rfl⟩) (dg_tup (dgs_cons (dg_n 3 scLIs.nd) (dgs_cons (dg_n 4 scLIs.nd) (dgs_cons (dg_n 5 scLIs.nd) dgs_nil)))) ?_)
  generalize hs : stAt tn (ps, od, none) es es.length = s at ke hh ⊢
  have vs := ke.v.v
  have hhA : [sesD CS CSc (momD (fileD C "ab" ps od pp op tn) .non pr :: momsOf C "ab" pp op tn (ps, od, none) es) out] = [sesD CS CSc (ms0 ++ [momD (fileS C "ab" pp op tn s) (aimD s.2.2) pr2]) out] := by rw [hh]
  refine dss_cons (ds_if (x := false) (DT.is (dt_w (dw_or (x := false) (y := false) (DT.is (dt_neD oj oj (de_prop S.cS Jo ⟨_, momT C pp op tn (ps, od, none) es, out, hjl, hjA, by rw [momT_j]⟩ (de_v 0)) (DE.is (de_listzip ml mz (de_v 2) (de_v 5) (by rw [anssOf_len, List.length_map]) (by rw [List.length_map]; omega)) (by rw [jou_zip]))) (by rw [eqv_self oj]; rfl)) fun _ =>
    dw_or (x := false) (y := false) (DT.is (dt_neI (de_lenO (i := es.length) B Ln ⟨_, momT C pp op tn (ps, od, none) es, out, hjl, hjA, by rw [momT_len]⟩ (by omega) (de_v 0)) (DE.is (de_len B.len (ds := es.map Ed.d) rfl (de_v 2)) (by rw [List.length_map]))) (by rw [decide_eq_true rfl]; rfl)) fun _ =>
    dw_or1 (DT.is (dt_neD (ok_aimD (.inl rfl) ke.a) (ok_aimD (.inl rfl) ke.a) (de_prop S.cS Ai ⟨ms0, _, aimD s.2.2, pr2, out, hhA, rfl⟩ (de_v 0)) (de_v 4)) (by rw [eqv_self (ok_aimD (.inl rfl) ke.a)]; rfl)))) rfl) (fun z => by cases z) fun _ => dss_nil ?_)
  refine dss_cons (ds_set 6 scLIs.nd (d := fileD C "ab" s.1 s.2.1 pp op tn) (de_prop S.cS Cu ⟨ms0, _, aimD s.2.2, pr2, out, hhA, rfl⟩ (de_v 0)) ?_)
  have os := ok_stD vs
  refine dss_cons (ds_if (x := false) (DT.is (dt_w (dw_or (x := false) (y := false) (DT.is (dt_neD os os (de_tup (da_cons (de_ps L P (de_v 6)) (da_cons (de_od L P (de_v 6)) da_nil))) (de_v 3)) (by rw [eqv_self os]; rfl)) fun _ =>
    dw_or (x := false) (y := false) (DT.is (dt_neD (da := .bl tn) (db := .bl tn) rfl rfl (de_tn L P (de_v 6)) (de_tn L P (de_v 1))) (by rw [eqv_self rfl]; rfl)) fun _ =>
    dw_or1 (DT.is (dt_neS (de_ls L P (de_v 6)) (de_ls L P (de_v 1))) (by rw [decide_eq_true rfl]; rfl)))) rfl) (fun z => by cases z) fun _ => dss_nil ?_)
  have on : (DV.lst [.int pp, .int op]).ok = true := by
    refine ok_row fun d hd => ?_
    simp only [List.mem_cons, List.not_mem_nil, or_false] at hd
    rcases hd with rfl | rfl <;> exact ⟨_, rfl⟩
  exact dss_one (ds_ret (DE.is (de_eqD on on (dl_lst (da_cons (de_pp L P (de_v 6)) (da_cons (de_oq L P (de_v 6)) da_nil))).de (dl_lst (da_cons (de_pp L P (de_v 1)) (da_cons (de_oq L P (de_v 1)) da_nil))).de) (by rw [eqv_self on])) rfl)
end SP

/-! More rules beside cells: cells that are forgotten, makers, tuples, lists, tests, walks downwards, defs that make lambdas. -/
namespace PD
open PySem PySem.Spec PyProof.Rows L2 LamX
section
variable {K : PySem.W.Frag} {S0 H0 B S H : Hp} {σ : L2.St} {ρ : Rho} {L L' : Cels}
/-- what is not asked for any more -/
theorem Sm.fgt (s : Sm K S0 H0 B σ S H ρ (cM K L')) (h : Le L L') : Sm K S0 H0 B σ S H ρ (cM K L) := by
  have dm : ∀ q, (cM K L).dom q → (cM K L').dom q := fun q y => by
    have y' : L q ≠ none := y
    show L' q ≠ none
    cases e : L q with
    | none => exact absurd e y'
    | some c => rw [h q c e]; exact fun z => by cases z
  have mx : ∀ q, mix (cM K L) H0 H q = mix (cM K L') H0 H q ∨ (mix (cM K L) H0 H q = none ∧ (cM K L').dom q) := fun q => by
    by_cases y : (cM K L).dom q
    · exact .inl (by rw [mix_in y, mix_in (dm q y)])
    · by_cases y' : (cM K L').dom q
      · exact .inr ⟨by rw [mix_out y]; exact (s.d.z q y').1, y'⟩
      · exact .inl (by rw [mix_out y, mix_out y'])
  refine ⟨⟨s.g.s, fun a u y => ?_, s.g.sub, fun a u y w => ?_⟩, s.b, ⟨s.n.len, fun i v x a b => ?_, s.n.sep⟩, ⟨fun q y => s.d.z q (dm q y), fun q c e => s.d.p q c (h q c e)⟩⟩
  · rcases mx a with e | ⟨e, _⟩
    · rw [e] at y; exact s.g.h a u y
    · rw [e] at y; cases y
  · rcases mx a with e | ⟨e, d⟩
    · rw [e]; exact s.g.new a u y w
    · rw [(s.d.z a d).2.2.1] at y; cases y
  · have k1 := s.n.at_ i v x a b
    cases x with
    | un => trivial
    | exo _ _ _ => exact k1
    | val d => exact k1
    | ownD d =>
      obtain ⟨p', o', k2, k3, k4, k5, k6⟩ := k1
      refine ⟨p', o', k2, ?_, k4, k5, k6⟩
      rcases mx p' with e | ⟨e, _⟩
      · rw [e]; exact k3
      · exact e
theorem Md.fgt (d : Md (cM K L') S0 H0 S H) (h : Le L L') : Md (cM K L) S0 H0 S H := ⟨fun q y => d.z q (by
    have y' : L q ≠ none := y
    show L' q ≠ none
    cases e : L q with
    | none => exact absurd e y'
    | some c => rw [h q c e]; exact fun z => by cases z), fun q c e => d.p q c (h q c e)⟩
theorem Rm.fgt {v : V} {d : DV} (s : Rm K S0 H0 v S H d (cM K L')) (h : Le L L') : Rm K S0 H0 v S H d (cM K L) := by
  have dm : ∀ q, (cM K L).dom q → (cM K L').dom q := fun q y => by
    have y' : L q ≠ none := y
    show L' q ≠ none
    cases e : L q with
    | none => exact absurd e y'
    | some c => rw [h q c e]; exact fun z => by cases z
  have mx : ∀ q, mix (cM K L) H0 H q = mix (cM K L') H0 H q ∨ (mix (cM K L) H0 H q = none ∧ (cM K L').dom q) := fun q => by
    by_cases y : (cM K L).dom q
    · exact .inl (by rw [mix_in y, mix_in (dm q y)])
    · by_cases y' : (cM K L').dom q
      · exact .inr ⟨by rw [mix_out y]; exact (s.md.z q y').1, y'⟩
      · exact .inl (by rw [mix_out y, mix_out y'])
  refine ⟨⟨s.go.s, fun a u y => ?_, s.go.sub, fun a u y w => ?_⟩, s.md.fgt h, s.rp⟩
  · rcases mx a with e | ⟨e, _⟩
    · rw [e] at y; exact s.go.h a u y
    · rw [e] at y; cases y
  · rcases mx a with e | ⟨e, d⟩
    · rw [e]; exact s.go.new a u y w
    · rw [(s.md.z a d).2.2.1] at y; cases y
theorem evr_forget {te : TE} {m : Mo} {d : DV} (h : EvR K te ρ m fun d' m' => d' = d ∧ ∃ L', m' = cM K L' ∧ Le L L') : EvU K te ρ m d (cM K L) := fun S0 H0 B σ S H s Q q => h S0 H0 B σ S H s Q fun d' m' v S' H' ⟨e1, L', e2, le⟩ s' e r => by
  subst e1 e2
  exact q v S' H' (s'.fgt le) e r
theorem evw_forget {tz : WX → TE} {m : Mo} {C : Addr} (h : EvW K tz ρ m (fun _ _ => False) fun _ C' _ m' => C' = C ∧ ∃ L', m' = cM K L' ∧ Le L L') : EvW K tz ρ m (fun _ _ => False) fun _ C' _ m' => C' = C ∧ m' = cM K L := fun S0 H0 B σ S H W s z Q q => h S0 H0 B σ S H W s (fun C' gs cls d ρ' m' σ' S' H' ⟨e1, L', e2, le⟩ s' x => by
  subst e2
  exact z C' gs cls d ρ' _ σ' S' H' ⟨e1, rfl⟩ (s'.fgt le) x) Q q
end
section
variable {K : PySem.W.Frag} {ρ : Rho} {m m' m2 : Mo} {L : Cels} {ta tb te : TE} {R R1 : DV → Mo → Prop} {d d1 d2 : DV} {ds : List DV}
/-- a new instance, beside cells -/
theorem evr_makeC {tx : TA} {A : Mo → List DV → (DV → Mo → Prop) → Prop} {C : Addr} {R : Addr → Mo → Prop} (ha : EvA K tx ρ ds) (hA : ∀ x, L x = none → A (cM K (cu L x (.ins C []))) (.adr x :: ds) (fun d m' => d = .non ∧ R x m')) : EvR K (tMake C (spM K A) [] E0 tx) ρ (cM K L) (fun d m' => ∃ x, L x = none ∧ d = .adr x ∧ R x m') := fun S0 H0 B σ S H s Q q =>
  ha _ σ S H s.g.sub s.n _ fun vs S1 H1 g1 r1 => fun x dx nx ndx nex => by
    have s1 := s.go g1
    have nL : L x = none := by
      cases y : L x with
      | none => rfl
      | some c => exact absurd nx (s1.d.z x (by show L x ≠ none; rw [y]; exact fun w => by cases w)).2.2.2
    have s2 := s1.cmade (C := C) nx ndx nex
    refine ⟨S1, _, _, _, s2.g.sub, fun a z => ⟨(s2.d.z a z).2.2.1, (s2.d.z a z).2.2.2⟩, s2.d.p, by rw [List.append_nil]; exact .cons (.adr x) r1, hA x nL, fun d m' v S3 H3 ⟨ed, hR⟩ b r3 => ?_⟩
    subst ed
    cases r3
    exact ⟨rfl, q (.adr x) m' _ S3 H3 ⟨x, nL, rfl, hR⟩ (s2.back b) (g1.s.tr b.s) (.adr x)⟩
/-- (a, b), a told by a relation -/
theorem evr_tup2 (ha : EvR K ta ρ m R1) (hb : ∀ d m', R1 d m' → EvU K tb ρ m' d2 m') : EvR K (tTup (tCons ta (tCons tb tNil))) ρ m (fun d m' => ∃ d1, d = .tup [d1, d2] ∧ R1 d1 m') := fun S0 H0 B σ S H s Q q =>
  ha S0 H0 B σ S H s _ fun d1 m1 v1 S1 H1 hR s1 e1 r1 => hb d1 m1 hR S0 H0 B σ S1 H1 s1 _ fun v2 S2 H2 s2 e2 r2 =>
    ⟨show 2 ≤ sizeLine by decide, fun p hp => q _ m1 _ _ _ ⟨d1, rfl, hR⟩ (s2.go (Go.up s2.g.sub hp)) ((e1.tr e2).tr (Ex.new (s2.g.sub.free hp))) (.tup (Or.inl (Or.inl upd_same)) (.cons ((r1.up e2).up (Ex.new (s2.g.sub.free hp))) (.cons (r2.up (Ex.new (s2.g.sub.free hp))) .nil)))⟩
theorem stm_asgRG {tg : TG} {E : Pm} (h : EvR K te ρ m R) (q : ∀ d m', R d m' → ∃ is ρ', TgD K tg is d ρ ρ' ∧ E.nx ρ' m') : StM K (tAsg te tg) ρ m E := fun S0 H0 B σ S H D s o =>
  h S0 H0 B σ S H s _ fun d m' v S1 H1 hR s1 e1 r1 => by
    obtain ⟨is, ρ', hg, hq⟩ := q d m' hR
    exact hg _ σ S1 H1 v s1.g.sub s1.n r1 _ fun σ' n' _ _ => o.nx _ _ _ S1 H1 hq ⟨s1.g, s1.b, n', s1.d⟩
/-- a list display -/
theorem evu_lst {tx : TA} (h : EvAU K tx ρ m ds m') (hl : ds.length ≤ 100000) : EvU K (tLst tx) ρ m (.lst ds) m' := fun S0 H0 B σ S H s Q q =>
  h S0 H0 B σ S H s _ fun vs S1 H1 s1 e1 r1 => ⟨Nat.le_trans (by rw [r1.len]; exact hl) (by decide), fun p hp => q _ _ _ (s1.go (Go.up s1.g.sub hp)) (e1.tr (Ex.new (s1.g.sub.free hp))) (.lst (.inl upd_same) (r1.up (Ex.new (s1.g.sub.free hp))))⟩
theorem evu_and {x y : Bool} (ha : EvU K ta ρ m (.bl x) m') (hb : x = true → EvU K tb ρ m' (.bl y) m2) (hx : x = true) : EvU K (tAndV ta tb) ρ m (.bl y) m2 := fun S0 H0 B σ S H s Q q =>
  ha S0 H0 B σ S H s _ fun v S1 H1 s1 e1 r1 => by
    cases r1
    refine ⟨x, rfl, ?_⟩
    rw [if_pos hx]
    exact hb hx S0 H0 B σ S1 H1 s1 Q fun w S2 H2 s2 e2 r2 => q w S2 H2 s2 (e1.tr e2) r2
theorem ebu_or {t u : TT} {x y : Bool} (h1 : EvBU K t ρ m x m') (h2 : EvBU K u ρ m' y m2) (hx : x = false) : EvBU K (tOr t u) ρ m y m2 := fun S0 H0 B σ S H s Q q =>
  h1 S0 H0 B σ S H s _ fun S1 H1 s1 e1 => by
    rw [hx, if_neg (by decide)]
    exact h2 S0 H0 B σ S1 H1 s1 Q fun S2 H2 s2 e2 => q S2 H2 s2 (e1.tr e2)
end
/-! walks downwards -/
def downD (i : Int) (n : Nat) : List DV := (List.range n).map fun (k : Nat) => DV.int (i + (k : Nat) * (-1))
theorem wk_dn {K : PySem.W.Frag} {S : Hp} (lo : Int) (n : Nat) : WkD K (Itc lo (-1) n) S (downD lo n) where
  stop := fun H e => by unfold downD; rw [List.length_map, List.length_range]; exact Nat.le_refl n
  go := fun i H e hi => by unfold downD at hi; rw [List.length_map, List.length_range] at hi; exact hi
  yld := fun i H x H' y d hd S1 e e1 => by
    obtain ⟨rfl, rfl⟩ := y
    unfold downD at hd
    rw [List.getElem?_map] at hd
    cases q : (List.range n)[i]? with
    | none => rw [q] at hd; cases hd
    | some j =>
      rw [q] at hd
      have hj : i = j := by
        have h1 := (List.getElem?_eq_some_iff.mp q).1
        rw [List.length_range] at h1
        rw [List.getElem?_range h1] at q
        exact Option.some.inj q
      subst hj
      cases hd
      exact ⟨S1, Go.rf e1, .int _⟩
theorem iv_down {K : PySem.W.Frag} {ρ : Rho} {t1 t2 t3 : TE} {i j : Int} (h1 : EvD K t1 ρ (.int i)) (h2 : EvD K t2 ρ (.int j)) (h3 : EvD K t3 ρ (.int (-1))) (hi : 0 ≤ i ∧ i ≤ 100000) (hj : 0 ≤ j ∧ j ≤ 100000) : IvD K (iRng3 (tCons t1 (tCons t2 (tCons t3 tNil)))) ρ (downD i (i - j).toNat) := fun H0 σ S H e m R q =>
  h1 H0 σ S H e m _ fun v1 S1 H1 g1 r1 => h2 H0 σ S1 H1 g1.sub (m.go g1) _ fun v2 S2 H2 g2 r2 => h3 H0 σ S2 H2 g2.sub ((m.go g1).go g2) _ fun v3 S3 H3 g3 r3 => by
    cases r1
    cases r2
    cases r3
    exact ⟨i, j, -1, (i - j).toNat, rfl, RgC.neg (by omega) (by omega) (by omega) (by omega), q _ S3 H3 ((g1.tr g2).tr g3) (wk_dn i _)⟩
section
variable {g : Gb} {n : Nat} {l : Lc} {c : Addr} {q nm : Str} {ρ : Rho} {m m' m2 : Mo} {a b e tg iter elt : Expr} {es rest : List Expr} {st : Stmt} {d da db : DV} {ds : List DV} {x y : Bool} {pos p cp : Pos} {E : Pm} {L L' : Cels} {R R1 : DV → Mo → Prop}
theorem di_dn {tg a b e : Expr} {i j : Int} {p : Pos} (hm : g.mg "range" = none) (h1 : DE g l a ρ (.int i)) (h2 : DE g l b ρ (.int j)) (h3 : DE g l e ρ (.int (-1))) (hi : 0 ≤ i ∧ i ≤ 100000) (hj : 0 ≤ j ∧ j ≤ 100000) (hg : GlN l "range" := by rfl) (hs : ∀ env, starEach [a, b, e] env = (false, eval a env) :: starEach [b, e] env := by intro _; rfl) (hs2 : ∀ env, starEach [b, e] env = (false, eval b env) :: starEach [e] env := by intro _; rfl) (hs3 : ∀ env, starEach [e] env = (false, eval e env) :: starEach [] env := by intro _; rfl) : DI g l tg (.Call (.Name "range" p) [a, b, e] [] pos) ρ (downD i (i - j).toNat) :=
  DI.by _ (fun X o => pi_range3 (o.gl hg) (by rw [o.mg]; exact hm) (pa_cons (UE.pe o a) (pa_cons (UE.pe o b) (pa_cons (UE.pe o e) pa_nil (hs3 _)) (hs2 _)) (hs _)) (hs _) (by rw [hs2, hs3]; rfl)) (iv_down h1 h2 h3 hi hj)
theorem DER.forget (h : DER g l e ρ m fun d' m' => d' = d ∧ ∃ L', m' = cM g.K L' ∧ Le L L') : DEM g l e ρ m d (cM g.K L) := evr_forget h
theorem DEW.forget {C : Addr} (h : DEW g l e ρ m (fun _ _ => False) fun _ C' _ m' => C' = C ∧ ∃ L', m' = cM g.K L' ∧ Le L L') : DEW g l e ρ m (fun _ _ => False) fun _ C' _ m' => C' = C ∧ m' = cM g.K L := evw_forget h
/-! in a def that makes lambdas -/
theorem dec_m (h : DEM g l e ρ m d m') : DEC g n l c q e ρ m d m' := .by (UE g l e) (fun X o => .of (UE.pe o.o e)) h
theorem dtc_m (h : DTM g l e ρ m x m') : DTC g n l c q e ρ m x m' := .by (UT g l e) (fun X o => .of (UT.pt o.o e)) h
theorem dsc_m (h : DSM g l st ρ m E) : DSC g n l c q st ρ m E := .by (US g l st) (fun X o => .of (US.ps o.o st)) h
theorem dtc_or (h1 : DTC g n l c q a ρ m x m') (h2 : DTC g n l c q b ρ m' y m2) (hx : x = false) : DTC g n l c q (.BoolOp .Or [a, b] pos) ρ m y m2 :=
  .by _ (fun X o => (pwn_or (UTC.pt o a) (pwn_or1 (UTC.pt o b))).pt) (ebu_or h1 h2 hx)
theorem dtm_or (h1 : DTM g l a ρ m x m') (h2 : DTM g l b ρ m' y m2) (hx : x = false) : DTM g l (.BoolOp .Or [a, b] pos) ρ m y m2 :=
  .by (tOr (UT g l a) (UT g l b)) (fun X o => by
    have k : PW X (.BoolOp .Or [a, b] pos) (tOr (UT g l a) (UT g l b)) := pw_or (UT.pt o a) (pw_or1 (UT.pt o b))
    exact k.pt) (ebu_or h1 h2 hx)
theorem dtm_not (h : DTM g l a ρ m x m') : DTM g l (.UnaryOp .Not a pos) ρ m (!x) m' := .by _ (fun X o => pt_not (UT.pt o a)) (ebu_not h)
theorem dtm_neD (h : da.ok = true) (h' : db.ok = true) (ha : DEM g l a ρ m da m') (hb : DE g l b ρ db) : DTM g l (.Compare a [.NotEq] [b] pos) ρ m (!da.eqv db) m' :=
  .by _ (fun X o => pt_cmpR (r := rNeD g.K) (by have := op_neD (X := X) o.u64; rw [o.K] at this; exact this) (UE.pe o a) (UE.pe o b) (nomark _)) (ebu_test (evu_op ha hb (od_neD h h')))
theorem dem_eqD (h : da.ok = true) (h' : db.ok = true) (ha : DEM g l a ρ m da m') (hb : DE g l b ρ db) : DEM g l (.Compare a [.Eq] [b] pos) ρ m (.bl (da.eqv db)) m' :=
  .by _ (fun X o => pe_cmpR (r := rEqD g.K) (by have := op_eqD (X := X) o.u64; rw [o.K] at this; exact this) (UE.pe o a) (UE.pe o b) (nomark _)) (evu_op ha hb (od_eqD h h'))
theorem dem_and2 (h1 : DEM g l a ρ m (.bl x) m') (h2 : DEM g l b ρ m' (.bl y) m2) (hx : x = true) : DEM g l (.BoolOp .And [a, b] pos) ρ m (.bl y) m2 :=
  .by (tAndV (UE g l a) (UE g l b)) (fun X o => pe_and (UE.pe o a) (pe_one (UE.pe o b))) (evu_and h1 (fun _ => h2) hx)
theorem dem_lst (h : DAM g l es ρ m ds m') (hl : ds.length ≤ 100000 := by first | decide | simp) : DEM g l (.List es pos) ρ m (.lst ds) m' := .by _ (fun X o => pe_lst (UA.pa o es)) (evu_lst h hl)
theorem dem_catL {i j : List DV} (h : i.length + j.length ≤ 100000) (ha : DEM g l a ρ m (.lst i) m') (hb : DEM g l b ρ m' (.lst j) m2) : DEM g l (.BinOp a .Add b pos) ρ m (.lst (i ++ j)) m2 := .by _ (fun X o => pe_op op_catR (UE.pe o a) (UE.pe o b)) (evu_opD ha hb (od_catL h))
theorem der_makeC {k : Nat} {C : Addr} {A : Mo → List DV → (DV → Mo → Prop) → Prop} {R : Addr → Mo → Prop} (M : MkM g k C nm A) (ha : DA g l (e :: es) ρ ds) (hA : ∀ x, L x = none → A (cM g.K (cu L x (.ins C []))) (.adr x :: ds) (fun d m' => d = .non ∧ R x m')) (hk : k + 1 ≤ l.k := by decide) (hg : GlN l nm := by rfl) (hdb : (nm == ("__debug__" : Str)) = false := by decide)
    (he : ∀ env, starEach (e :: es) env = (false, eval e env) :: starEach es env := by intro _; rfl) (hpl : ∀ env, (backTo pos (starEach es env)).any (·.1) = false := by intro _; rfl) (hcl : l.cb = true := by rfl) : DER g l (.Call (.Name nm cp) (e :: es) [] pos) ρ (cM g.K L) (fun d m' => ∃ x, L x = none ∧ d = .adr x ∧ R x m') := by
  obtain ⟨hmg, f, fd, ps, mk, ok, hb⟩ := M
  exact DER.by (tMake C (spM g.K A) [] E0 (UA g l (e :: es))) (fun X o => pe_make (CX := CX0) (k := k) (ds := []) (by rw [o.K]; exact mk) (by rw [o.prog, o.w, o.K, o.mg, o.base]; exact ok) ((o.room hcl).mono hk) (o.gl hg) (by rw [o.mg]; exact hmg) (by rw [o.K]; exact hb) .nil pass0 (UA.pa o _) hdb (he _) (hpl _)) (evr_makeC ha hA)
theorem MkW.v {k : Nat} {C : Addr} {A : Aw} (M : MkW g k C nm A) : MkM g k C nm fun m ds R => A m ds R noZ := by
  obtain ⟨f, fd, ps, mk, ok, hb⟩ := M.ex
  exact ⟨M.mg, f, fd, ps, mk, FnOk.noW ok, hb⟩
/-- x, y = (a, b), a told by a relation -/
theorem dsm_asg2 {kt k2 : Nat} {pt pt2 : Pos} {d2 : DV} {tgs : List Expr} (h : DER g l a ρ m R1) (hb : ∀ d m', R1 d m' → DEM g l b ρ m' d2 m') (q : ∀ d1 m', R1 d1 m' → ∃ is ρ', DG g l (.Tuple tgs kt pt) is (.tup [d1, d2]) ρ ρ' ∧ E.nx ρ' m')
    (hs : ∀ env, starEach [a, b] env = (false, eval a env) :: starEach [b] env := by intro _; rfl) (hs2 : ∀ env, starEach [b] env = (false, eval b env) :: starEach [] env := by intro _; rfl)
    (hsw : ∀ env, swapsWithSole [.Tuple tgs kt pt] (.Tuple [a, b] k2 pt2) pos.line env = pure false := by intro _; rfl) (hw : ∀ env, env.scope = l.sc → swappedStores [.Tuple tgs kt pt] (.Tuple [a, b] k2 pt2) env = pure none := by intro env h; cases env; cases h; rfl)
    (h1 : ∀ env, (assignEach [.Tuple tgs kt pt] env).map (·.2) = [assign (.Tuple tgs kt pt) env] := by intro _; rfl) : DSM g l (.Assign [.Tuple tgs kt pt] (.Tuple [a, b] k2 pt2) pos) ρ m E :=
  .by (tAsg (tTup (tCons (UE g l a) (tCons (UE g l b) tNil))) (UG g l (.Tuple tgs kt pt))) (fun X o => ps_asg (pe_tup (pa_cons (UE.pe o a) (pa_cons (UE.pe o b) pa_nil (hs2 _)) (hs _))) (UG.pg o _) (hsw _) (hw _ o.sc) (h1 _))
    (stm_asgRG (evr_tup2 h hb) fun d m' ⟨d1, e1, hR⟩ => by
      subst e1
      obtain ⟨is, ρ', hg, hq⟩ := q d1 m' hR
      exact ⟨is, ρ', hg.tg, hq⟩)
/-- y = [..], the elements change cells -/
theorem dsm_lcE {is : List Nat} {scope : Scope} {own : List (Str × Nat)} {spos : Pos} (i : Nat) (mm : Nat → Cels) (f : Nat → DV) {ds' : List DV} (h0 : mm 0 = L) (h1 : mm ds.length = L') (h2 : (List.range ds.length).map f = ds') (nd : l.N.Nodup) (ok : blkC l.N l.sc scope own = true) (hi : DI g l tg iter ρ ds) (hlen : ds.length ≤ 100000) (his : ∀ j ∈ is, j ∈ own.map (·.2)) (hno : noOwn ρ = true) (ρ1 : DV → Rho) (hno1 : ∀ d ∈ ds, noOwn (ρ1 d) = true)
    (hg : ∀ d ∈ ds, DG g (inn l scope) tg is d (wipeR ρ (own.map (·.2))) (ρ1 d)) (hdm : ∀ i a, i < ds.length → mm i a = none → mm (i + 1) a = none) (he : ∀ i d, ds[i]? = some d → DEM g (inn l scope) elt (ρ1 d) (cM g.K (mm i)) (f i) (cM g.K (mm (i + 1)))) (qq : E.nx (ρ.set i (.val (.lst ds'))) (cM g.K L'))
    (hs : ∀ env x, foldedSetIterable iter env x = pure x := by intro _ _; rfl) (hN : l.N[i]? = some nm := by rfl) (hk : l.sc.kind = .function := by rfl) (hy : l.sc.names.lookup nm = some .local := by rfl) (hl : (p.line == pos.line) = true := by rfl)
    (hsc : (scope.names.any fun (m, k) => m == nm && (k == .local || k == .cell)) = false := by rfl) (hcl : l.cb = true := by rfl) : DSM g l (.Assign [.Name nm p] (.ListComp elt [⟨tg, iter, [], 0⟩] scope pos) spos) ρ (cM g.K L) E := by
  subst h0 h1 h2
  exact .by (tAsg (rL g l elt tg iter [] scope own) (gName i)) (fun X o => ps_rL o nd ok hs hN hk hy hl hsc hcl) (stm_asg (evu_lcT hi hlen his hno mm ρ1 hno1 f (fun d hd => (hg d hd).tg) (fun d hd => dts_nil) hdm he) qq)
end
/-! a def that makes lambdas, with cells -/
def tabL (P : Addr) (q : Str) : Cels := cu c0 P (.tab q)
theorem tabM_c (K : PySem.W.Frag) (P : Addr) (q : Str) : tabM [(P, q)] = cM K (tabL P q) := by
  have at1 : ∀ p c, tabL P q p = some c → p = P ∧ c = .tab q := fun p c h => by
    by_cases w : p = P
    · subst w
      unfold tabL at h
      rw [cu_same] at h
      exact ⟨rfl, (Option.some.inj h).symm⟩
    · unfold tabL at h
      rw [cu_ne w] at h
      cases h
  have atP : tabL P q P = some (.tab q) := cu_same
  unfold tabM cM
  congr 1
  · funext p
    refine propext ⟨fun h => ?_, fun h => ?_⟩
    · have e : p = P := by simpa using h
      rw [e, atP]
      exact fun z => by cases z
    · cases e : tabL P q p with
      | none => exact absurd e h
      | some c => rw [(at1 p c e).1]; simp
  · funext S H
    refine propext ⟨fun h p c e => ?_, fun h p hp => ?_⟩
    · obtain ⟨rfl, rfl⟩ := at1 p c e
      exact h (p, q) (List.mem_singleton.mpr rfl)
    · have e := List.mem_singleton.mp hp
      subst e
      exact h P _ atP
end PD
namespace SP
open PySem PySem.Spec PyProof.Rows L2 PD LamX
theorem fn_okC {g : Gb} {n : Nat} {x qual : Str} {st : Stmt} {f c P : Addr} {fd : FuncData} {N ps : List Str} {k : Nat} {R : List DV → DV → Prop} {q : Str} (F : FunC g.K x qual st c f fd) (hq : qual ++ ".<locals>." ++ "<lambda>" = q) (S : FnScope N ps (defScope st)) (len : ∀ ds d, R ds d → ds.length = ps.length)
    (body : ∀ ds d, R ds d → DSsC g n ⟨k, N, defScope st, fun _ => true, true, none⟩ c q (defBody st) (rho0 N ds) (cM g.K (tabL P q)) { nx := fun _ _ => False, rt := fun r m => r = d ∧ ∃ L, m = cM g.K L ∧ Le (tabL P q) L }) : FnOkN g.P g.w g.K g.mg g.base CX0 (k + 1) n f fd ps (spT g.K [(P, q)] R) where
  len := fun vs H Q E ⟨S0, m, ds, A, e, _, _, ra, ⟨_, r, hR, _⟩, _⟩ => by rw [ra.len]; exact len ds r hR
  run := fun A outer s H args us vs Q E hr e0 ht hb rv ⟨S0, m, ds, R', e, hz, hp, ra, ⟨em, r, hR, eR⟩, q0⟩ => by
    subst em eR
    refine fn_rawC (k := k) (n := n) F S (by rw [ra.len]; exact len ds r hR) hr e0 hb rv ht fun s1 hr1 I1 t1 => ?_
    have o : OfC g ⟨k, N, defScope st, fun _ => true, true, none⟩ c q (cxOf CX0 g.P g.w g.K g.mg g.base N qual (defScope st) f (.ref c) A outer s H E).nox := ⟨⟨rfl, rfl, rfl, rfl, rfl, rfl, rfl, fun _ _ => rfl, fun _ => rfl, fun _ => hr1, hr1.un, fun _ => PassesOwn.never, (fun _ _ _ h => by cases h)⟩, rfl, hq⟩
    refine wpAny_mono ((USsC.sn (n := n) o (defBody st)).run [] s1 _ H { nx := fun _ H' => Q .non H', rt := Q } t1 (I1.wish (fun _ _ => False)) ?_) (fun _ _ z => z.unwish) fun _ _ z => z.elim
    have et := tabM_c g.K P q
    have sm : Sm g.K S0 (hidM (cM g.K (tabL P q)) H) S0 (start N vs) S0 H (rho0 N ds) (cM g.K (tabL P q)) := by
      rw [← et]
      exact ⟨by rw [mix_hid]; exact Go.rf e, Ex.rf _, en_start ra, ⟨fun q y => ⟨hidM_in y, (hz q y).1, (hz q y).1, (hz q y).2⟩, hp⟩⟩
    refine body ds r hR S0 (hidM (cM g.K (tabL P q)) H) S0 _ S0 H _ sm ⟨fun _ _ _ _ _ z => z.elim, fun d m' v S1 H1 z r1 => ?_, fun _ _ _ _ _ z => z.elim, fun _ _ _ _ _ z => z.elim⟩
    obtain ⟨rfl, L, rfl, le⟩ := z
    have r2 := r1.fgt le
    rw [← et] at r2
    exact q0 d _ v S1 H1 ⟨rfl, rfl⟩ (bk_of r2.go r2.md) r2.rp
end SP

/-! text * int, list display * int. -/
namespace PD
open PySem PySem.Spec PyProof.Rows L2
def repS (z : Str) (k : Nat) : Str := ⟨(List.replicate k z.cps).foldl (· ++ ·) #[]⟩
def rRepS : R2 := fun x y H Q => ∃ (z : Str) (k : Nat), x = .str z ∧ y = .int (k : Int) ∧ 2 ≤ k ∧ k ≤ 1000 ∧ 0 < z.length ∧ z.length ≤ 1000 ∧ (repS z k).length ≤ sizeLine ∧ Q (.str (repS z k)) H
theorem op_repS {X : Cx} : OpR X (binaryOp .Mult) rRepS := by
  intro pins s σ H x y v u Q I rx ry h
  obtain ⟨z, k, rfl, rfl, h1, h2, h3, h4, h5, q⟩ := h
  obtain ⟨t, rfl⟩ := rx
  obtain ⟨t', rfl⟩ := ry
  have n1 : ¬ (k : Int) < 1 := by omega
  have n2 : ((k : Int) == 1 || z.length == 0) = false := by
    rw [Bool.or_eq_false_iff]
    exact ⟨beq_eq_false_iff_ne.mpr (by omega), beq_eq_false_iff_ne.mpr (by omega)⟩
  refine P.mul_str ?_ (fun _ _ => ?_) (fun _ _ => ?_) ?_
  · rw [decide_eq_false (by omega), decide_eq_false (by omega)]
    rfl
  · have hk : ((2 : Int) ^ 63 - 1) / 1000 ≤ (2 ^ 63 - 1) / (k : Int) := by
      refine (Int.le_ediv_iff_mul_le (by omega)).mpr ?_
      have : ((2 : Int) ^ 63 - 1) / 1000 * (k : Int) ≤ ((2 : Int) ^ 63 - 1) / 1000 * 1000 := Int.mul_le_mul_of_nonneg_left (by omega) (by decide)
      refine Int.le_trans this (by decide)
    have : ((2 : Int) ^ 63 - 1) / 1000 = 9223372036854775 := by decide
    omega
  · have a1 : z.length * k ≤ 1000 * 1000 := Nat.mul_le_mul h4 h2
    unfold Builtin.Str.tooLong
    rw [Int.toNat_natCast]
    refine decide_eq_false ?_
    rw [sizeLine_eq]
    omega
  · rw [if_neg n1, if_neg (by rw [n2]; exact Bool.false_ne_true), Int.toNat_natCast]
    exact ⟨h5, .str (repS z k), H, I.tok _, ⟨_, rfl⟩, q⟩
section
variable {K : PySem.W.Frag} {g : Gb} {l : Lc} {ρ : Rho} {a b : Expr} {pos : Pos} {ta tb : TE} {ds : List DV} {z : Str} {k : Nat}
theorem od_repS (h1 : 2 ≤ k) (h2 : k ≤ 1000) (h3 : 0 < z.length) (h4 : z.length ≤ 1000) (h5 : (repS z k).length ≤ sizeLine) : OpD K rRepS (.str z) (.int (k : Int)) (.str (repS z k)) := fun S H _ _ e r1 r2 Q q => by
  cases r1
  cases r2
  exact ⟨z, k, rfl, rfl, h1, h2, h3, h4, h5, q _ S H (Go.rf e) (.str _)⟩
theorem de_repS (h1 : 2 ≤ k) (h2 : k ≤ 1000) (h3 : 0 < z.length) (h4 : z.length ≤ 1000) (h5 : (repS z k).length ≤ sizeLine) (ha : DE g l a ρ (.str z)) (hb : DE g l b ρ (.int (k : Int))) : DE g l (.BinOp a .Mult b pos) ρ (.str (repS z k)) :=
  de_op (r := rRepS) (fun X o => op_repS) ha hb (od_repS h1 h2 h3 h4 h5)
theorem ev_repL (h2 : k ≤ 1000) (h3 : ds.length ≤ 1000) (h : EvL K ta ρ ds) (hb : EvD K tb ρ (.int (k : Int))) : EvD K (tOp rRep ta tb) ρ (.lst (List.replicate k ds).flatten) := fun H0 σ S H e n Q q =>
  h H0 σ S H e n _ fun p vs S1 H1 hp g1 n1 h1 r1 => hb H0 σ S1 H1 g1.sub (n.go g1) _ fun w S2 H2 g2 r2 => by
    cases r2
    have hl := r1.len
    refine ⟨p, (k : Int), vs, rfl, rfl, g2.h _ _ h1, by omega, by omega, ?_, fun p' hp' => ?_⟩
    · rw [Int.toNat_natCast, sizeLine_eq]
      have : vs.length * k ≤ 1000 * 1000 := Nat.mul_le_mul (by omega) h2
      omega
    · rw [Int.toNat_natCast]
      exact q _ _ _ ((g1.tr g2).tr (Go.up g2.sub hp')) (.lst (.inl upd_same) (rpa_rep (((r1.up g2.s).up (Ex.new (g2.sub.free hp')))) k))
theorem de_repL (h2 : k ≤ 1000) (h3 : ds.length ≤ 1000) (ha : DL g l a ρ ds) (hb : DE g l b ρ (.int (k : Int))) : DE g l (.BinOp a .Mult b pos) ρ (.lst (List.replicate k ds).flatten) :=
  DE.by (tOp rRep (UE g l a) (UE g l b)) (fun X o => pe_op op_rep (UE.pe o a) (UE.pe o b)) (ev_repL h2 h3 ha hb)
end
end PD

/-! Edits, one row behind another; the edits that are none. -/
namespace SP
open PySem PySem.Spec PyProof.Rows L2 PD
variable {C : Addr} {ls : Str} {pp op : Int} {tn : Bool}
theorem stAt_cons (s : Sx) (e : Ed) (es : List Ed) (i : Nat) : stAt tn s (e :: es) (i + 1) = stAt tn (stepE tn s e) es i := rfl
theorem momsOf_cons (s : Sx) (e : Ed) (es : List Ed) : momsOf C ls pp op tn s (e :: es) = newM C ls pp op tn s e :: momsOf C ls pp op tn (stepE tn s e) es := by
  unfold momsOf
  rw [List.length_cons, List.range_succ_eq_map, List.map_cons, List.map_map]
  rfl
theorem anssOf_cons (s : Sx) (e : Ed) (es : List Ed) : anssOf tn s (e :: es) = ansE tn s e :: anssOf tn (stepE tn s e) es := by
  unfold anssOf
  rw [List.length_cons, List.range_succ_eq_map, List.map_cons, List.map_map]
  rfl
theorem momsOf_nil (s : Sx) : momsOf C ls pp op tn s [] = [] := rfl
theorem momsOf_app : ∀ (a b : List Ed) (s : Sx), momsOf C ls pp op tn s (a ++ b) = momsOf C ls pp op tn s a ++ momsOf C ls pp op tn (stAt tn s a a.length) b
  | [], b, s => rfl
  | e :: a, b, s => by
    rw [List.cons_append, momsOf_cons, momsOf_cons, momsOf_app a b, List.length_cons, stAt_cons]
    rfl
theorem anssOf_app : ∀ (a b : List Ed) (s : Sx), anssOf tn s (a ++ b) = anssOf tn s a ++ anssOf tn (stAt tn s a a.length) b
  | [], b, s => rfl
  | e :: a, b, s => by
    rw [List.cons_append, anssOf_cons, anssOf_cons, anssOf_app a b, List.length_cons, stAt_cons]
    rfl
theorem okEds_app : ∀ {a b : List Ed} {s : Sx}, okEds ls tn s (a ++ b) ↔ okEds ls tn s a ∧ okEds ls tn (stAt tn s a a.length) b
  | [], b, s => ⟨fun h => ⟨trivial, h⟩, fun h => h.2⟩
  | e :: a, b, s => by
    rw [List.cons_append, List.length_cons, stAt_cons]
    exact ⟨fun h => ⟨⟨h.1, (okEds_app.mp h.2).1⟩, (okEds_app.mp h.2).2⟩, fun h => ⟨h.1.1, okEds_app.mpr ⟨h.1.2, h.2⟩⟩⟩
theorem momsOf_take : ∀ (es : List Ed) (s : Sx) (i : Nat), momsOf C ls pp op tn s (es.take i) = (momsOf C ls pp op tn s es).take i
  | [], s, i => by rw [List.take_nil, momsOf_nil, List.take_nil]
  | e :: es, s, 0 => rfl
  | e :: es, s, i + 1 => by rw [List.take_succ_cons, momsOf_cons, momsOf_cons, List.take_succ_cons, momsOf_take es]
theorem okEds_take {s : Sx} {es : List Ed} (i : Nat) (h : okEds ls tn s es) : okEds ls tn s (es.take i) := by
  rw [← List.take_append_drop i es] at h
  exact (okEds_app.mp h).1
/-- the answer at place i, and the moment -/
theorem anss_at {s : Sx} {es : List Ed} {i : Nat} {e : Ed} (h : es[i]? = some e) : (anssOf tn s es)[i]? = some (ansE tn (stAt tn s es i) e) := by
  have hi := (List.getElem?_eq_some_iff.mp h).1
  unfold anssOf
  rw [List.getElem?_map, List.getElem?_range hi]
  show some (ansE tn (stAt tn s es i) (es.getD i _)) = _
  rw [List.getD_eq_getElem?_getD, h]
  rfl
theorem moms_last {s : Sx} {es : List Ed} {i : Nat} {e : Ed} (h : es[i]? = some e) : momsOf C ls pp op tn s (es.take (i + 1)) = momsOf C ls pp op tn s (es.take i) ++ [newM C ls pp op tn (stAt tn s es i) e] := by
  rw [momsOf_take, momsOf_take, momsOf_snoc h]
/-! ### what is no edit -/
def bad1 : List DV := [.non, .int 5, .str "aim", .tup [.str "aim"]]
def bad2 (od : List Nat) : List DV := [.tup [.str "aim", .str "abc"], .tup [.str "aim", .non], .tup [.str "write", .tup [.str "order", .tup (odD od)]], .lst [.str "aim", .str "a"]]
def bad3 : List DV := [.tup [.str "end", .str "a"], .tup [.str "write", .non], .tup [.str "aim", .str (repS "a" 7)]]
def bad4L : List DV := [.tup [.str "write", .tup [.str "piece", .int 3, .str "a"]], .tup [.non, .str "a"], .tup [.str "aim", .str "a", .int 1]]
def badsE (od : List Nat) : List DV := ((bad1 ++ bad2 od) ++ bad3) ++ bad4L
theorem fits_odN (od : List Nat) : fits (odD od) = true := by
  induction od with
  | nil => unfold odD; rw [List.map_nil, fits]
  | cons x xs ih =>
    unfold odD at ih ⊢
    rw [List.map_cons, fits, ih, fit]
    rfl
theorem fit_odT (od : List Nat) (ho : od.length ≤ 3) : fit (.tup (odD od)) = true := by
  rw [fit, fits_odN, Bool.and_true]
  exact decide_eq_true (by rw [odD_len]; omega)
theorem bad_is (ps : List Str) (od : List Nat) (h3 : ps.length ≤ 3) (ho : od.length ≤ 3) : ∀ v ∈ badsE od, fit v = true ∧ isEd "ab" ps od v = false := by
  intro v hv
  unfold badsE bad1 bad2 bad3 bad4L at hv
  simp only [List.cons_append, List.nil_append, List.mem_cons, List.not_mem_nil, or_false] at hv
  have fs : ∀ z : Str, z.length ≤ 100000 → fit (.str z) = true := fun z h => by rw [fit]; exact decide_eq_true h
  have f2 : ∀ a b : DV, fit a = true → fit b = true → fit (.tup [a, b]) = true := fun a b h1 h2 => by rw [fit, fits, fits, fits, h1, h2]; rfl
  have aimS : fit (.str "aim") = true := fs _ (by decide +kernel)
  have nonF : fit .non = true := by rw [fit]
  rcases hv with rfl | rfl | rfl | rfl | rfl | rfl | rfl | rfl | rfl | rfl | rfl | rfl | rfl | rfl
  · exact ⟨nonF, rfl⟩
  · exact ⟨by rw [fit], rfl⟩
  · exact ⟨aimS, rfl⟩
  · exact ⟨by rw [fit, fits, fits, aimS]; rfl, rfl⟩
  · exact ⟨f2 _ _ aimS (fs _ (by decide +kernel)), isEd_aim.trans (by decide +kernel)⟩
  · exact ⟨f2 _ _ aimS nonF, isEd_aim.trans rfl⟩
  · refine ⟨f2 _ _ (fs _ (by decide +kernel)) (f2 _ _ (fs _ (by decide +kernel)) ?_), (isEd_ne (by decide +kernel)).trans ?_⟩
    · exact fit_odT od ho
    · have e : (!(DV.tup (odD od)).eqv (.tup (odD od))) = false := by rw [eqv_odD, decide_eq_true rfl]; rfl
      show (decide (("write" : Str) = "write") && (decide (("order" : Str) = "order") && isOrder ps.length (.tup (odD od)) && !(DV.tup (odD od)).eqv (.tup (odD od)))) = false
      rw [e, Bool.and_false, Bool.and_false]
  · exact ⟨by rw [fit, fits, fits, fits, aimS, fs "a" (by decide +kernel)]; rfl, rfl⟩
  · exact ⟨f2 _ _ (fs _ (by decide +kernel)) (fs _ (by decide +kernel)), (isEd_ne (by decide +kernel)).trans (by rw [show decide (("end" : Str) = "write") = false by decide +kernel]; rfl)⟩
  · exact ⟨f2 _ _ (fs _ (by decide +kernel)) nonF, (isEd_ne (by decide +kernel)).trans (Bool.and_false _)⟩
  · exact ⟨f2 _ _ aimS (fs _ (by decide +kernel)), isEd_aim.trans (by decide +kernel)⟩
  · refine ⟨f2 _ _ (fs _ (by decide +kernel)) (by rw [fit, fits, fits, fits, fits, fs "piece" (by decide +kernel), fs "a" (by decide +kernel), fit]; rfl), (isEd_ne (by decide +kernel)).trans ?_⟩
    have e : isBlock ps.length (.int 3) = false := by
      show (decide ((0 : Int) ≤ 3) && decide ((3 : Int) < (ps.length : Nat))) = false
      rw [decide_eq_false (show ¬ (3 : Int) < (ps.length : Nat) by omega), Bool.and_false]
    show (decide (("write" : Str) = "write") && (decide (("piece" : Str) = "piece") && isBlock ps.length (.int 3) && isWord "ab" 2 (.str "a") && _)) = false
    rw [e, Bool.and_false, Bool.false_and, Bool.false_and, Bool.and_false]
  · exact ⟨f2 _ _ nonF (fs _ (by decide +kernel)), rfl⟩
  · exact ⟨by rw [fit, fits, fits, fits, fits, aimS, fs "a" (by decide +kernel), fit]; rfl, rfl⟩
end SP

/-! _law_one_right: where a session stands. -/
namespace SP
open PySem PySem.Spec PyProof.Rows L2 PD LamX
variable {g : Gb} {C CS CSc CE CN : Addr}
def msAt (C : Addr) (pp op : Int) (tn : Bool) (ps : List Str) (od : List Nat) (es : List Ed) : List DV := momD (fileD C "ab" ps od pp op tn) .non .non :: momsOf C "ab" pp op tn (ps, od, none) es
theorem hist_ms {pp op : Int} {tn : Bool} {ps : List Str} {od : List Nat} {es : List Ed} : Hist C "ab" pp op tn (msAt C pp op tn ps od es) (stAt tn (ps, od, none) es es.length) := by
  have h := hist_at (C := C) (ls := "ab") (pp := pp) (op := op) (tn := tn) (ms := [momD (fileD C "ab" ps od pp op tn) .non .non]) (s := (ps, od, none)) (es := es) ⟨[], .non, rfl⟩ es.length (Nat.le_refl _)
  rw [List.take_of_length_le (by rw [momsOf_len]; exact Nat.le_refl _)] at h
  exact h
theorem msAt_len {pp op : Int} {tn : Bool} {ps : List Str} {od : List Nat} {es : List Ed} : (msAt C pp op tn ps od es).length = es.length + 1 := by
  unfold msAt
  rw [List.length_cons, momsOf_len]
section
variable {l : Lc} {ρ : Rho} {na nb : Str} {pa pb p1 pos : Pos} {e : Expr} {L : Cels} {p q lc : Addr} {pp op : Int} {tn : Bool} {ps : List Str} {od : List Nat} {es : List Ed}
theorem dt_at (Is : Fn g 5 "_law_is_at" (R_lisat C CS CSc)) {ρ : Rho} (v : VF "ab" ps od pp op) (ok : okEds "ab" tn (ps, od, none) es) (hl : es.length ≤ 900) (ha : DE g l (.Name na pa) ρ (sesD CS CSc (msAt C pp op tn ps od es) .non)) (hb : DE g l (.Name nb pb) ρ (fileD C "ab" ps od pp op tn)) (he : DE g l e ρ (.lst (es.map Ed.d)))
    (hk : 5 ≤ l.k := by decide) (hg : GlN l "_law_is_at" := by rfl) (hs : ∀ env, starEach [e] env = (false, eval e env) :: starEach [] env := by intro _; rfl) (hcl : l.cb = true := by rfl) : DE g l (.Call (.Name "_law_is_at" p1) [.Name na pa, .Name nb pb, e] [] pos) ρ (.bl true) :=
  de_call (hcl := hcl) Is (da_cons ha (da_cons hb (da_cons he da_nil hs))) ⟨ps, od, pp, op, tn, es, .non, .non, v, ok, hl, rfl, rfl⟩ hk hg (by decide) (fun _ => rfl) (fun env => by
    have h2 : starEach [.Name nb pb, e] env = (false, eval (.Name nb pb) env) :: starEach [e] env := rfl
    rw [h2, hs]
    rfl)
theorem dtm_at (i : Nat) (Is : Fn g 5 "_law_is_at" (R_lisat C CS CSc)) (I : Ses CS CSc L p q lc .non (msAt C pp op tn ps od es)) (hi : ρ[i]? = some (.val (.adr p))) (v : VF "ab" ps od pp op) (ok : okEds "ab" tn (ps, od, none) es) (hl : es.length ≤ 900) (ha : DE g l (.Name na pa) (ρ.set i (.val (sesD CS CSc (msAt C pp op tn ps od es) .non))) (sesD CS CSc (msAt C pp op tn ps od es) .non)) (hb : DE g l (.Name nb pb) (ρ.set i (.val (sesD CS CSc (msAt C pp op tn ps od es) .non))) (fileD C "ab" ps od pp op tn)) (he : DE g l e (ρ.set i (.val (sesD CS CSc (msAt C pp op tn ps od es) .non))) (.lst (es.map Ed.d)))
    (hk : 5 ≤ l.k := by decide) (hg : GlN l "_law_is_at" := by rfl) (hs : ∀ env, starEach [e] env = (false, eval e env) :: starEach [] env := by intro _; rfl) (hcl : l.cb = true := by rfl) : DTM g l (.Call (.Name "_law_is_at" p1) [.Name na pa, .Name nb pb, e] [] pos) ρ (cM g.K L) true (cM g.K L) :=
  dtm_lendV i I.vc hi (dt_e (dt_at Is v ok hl ha hb he hk hg hs hcl))
theorem dem_at (i : Nat) {Cs : List Addr} (hk0 : Kin L Cs) (Is : Fn g 5 "_law_is_at" (R_lisat C CS CSc)) (I : Ses CS CSc L p q lc .non (msAt C pp op tn ps od es)) (hi : ρ[i]? = some (.val (.adr p))) (v : VF "ab" ps od pp op) (ok : okEds "ab" tn (ps, od, none) es) (hl : es.length ≤ 900) (ha : DE g l (.Name na pa) (ρ.set i (.val (sesD CS CSc (msAt C pp op tn ps od es) .non))) (sesD CS CSc (msAt C pp op tn ps od es) .non)) (hb : DE g l (.Name nb pb) (ρ.set i (.val (sesD CS CSc (msAt C pp op tn ps od es) .non))) (fileD C "ab" ps od pp op tn)) (he : DE g l e (ρ.set i (.val (sesD CS CSc (msAt C pp op tn ps od es) .non))) (.lst (es.map Ed.d)))
    (hk : 5 ≤ l.k := by decide) (hg : GlN l "_law_is_at" := by rfl) (hs : ∀ env, starEach [e] env = (false, eval e env) :: starEach [] env := by intro _; rfl) (hcl : l.cb = true := by rfl) : DEM g l (.Call (.Name "_law_is_at" p1) [.Name na pa, .Name nb pb, e] [] pos) ρ (cM g.K L) (.bl true) (cM g.K L) :=
  dem_lendC i hk0 I.vc hi (dt_at Is v ok hl ha hb he hk hg hs hcl) (by rw [DV.cln])
end
theorem nolk {n : Str} {x : DV} (h : (n == ("_scope" : Str)) = false) : ([("_scope", x)] : List (Str × DV)).lookup n = none := by
  rw [List.lookup_cons, h]
  rfl
theorem anss_ok {tn : Bool} {s : Sx} {es : List Ed} : (DV.lst (anssOf tn s es)).ok = true := ok_lstD fun d hd => by
  unfold anssOf at hd
  rw [List.mem_map] at hd
  obtain ⟨i, _, rfl⟩ := hd
  exact ⟨ans_pl.1, Nat.le_trans ans_pl.2 (by decide)⟩
abbrev loN : List Str := ["_law_file_here", "_law_first", "_law_more", "_law_session", "_law_many", "_law_branch", "_law_bad", "_law_one", "_law_at", "_law_others", "_law_left_here", "_law_edit_here"]
theorem scLOne : FnScope loN ["_law_file_here", "_law_first", "_law_more"] (defScope s__law_one_right) := ⟨rfl, rfl, rfl, by decide +kernel, rfl, by decide +kernel, by decide +kernel⟩
abbrev loL : Lc := ⟨12, loN, defScope s__law_one_right, fun _ => true, true, none⟩
/-- what the law's main def calls -/
structure Kone (g : Gb) (C CS CSc CE CN : Addr) (Cs : List Addr) (c Pt : Addr) (q : Str) : Prop where
  B : Bt g
  L : Fl g C
  P : Fp g C
  S : Ssl g CS CSc
  Ms : MkW g 3 CS "Session" (A_ssi g.K C CS CSc)
  Wd : Wdf g CN CE
  TB : TabB g.base g.mg c Pt
  Un : MeW g 3 CS "undo" (A_sun g.K CS CSc CN)
  Ed : MeW g 9 CS "edit" (A_sed g.K C CS CSc CE Cs)
  Br : MeW g 5 CS "branch" (A_sbr g.K C CS CSc Cs)
  Tr : MeW g 10 CS "tried" (A_strd g.K C CS CSc CE Cs)
  Cu : Pr g 1 CS "current" (R_scur CS CSc)
  Is : Fn g 5 "_law_is_at" (R_lisat C CS CSc)
  Do : Fn g 4 "_law_done" (R_ldn C)
  hC : Cs.contains C = false
  hCS : Cs.contains CS = true
  hCSc : Cs.contains CSc = true
/-- where it stands: the table, and sessions -/
structure Stand (L : Cels) (Cs : List Addr) (Pt : Addr) (q : Str) : Prop where
  tab : L Pt = some (.tab q)
  kin : Kin L Cs
theorem Stand.put {L : Cels} {Cs : List Addr} {Pt p : Addr} {q : Str} {ds ds' : List DV} (s : Stand L Cs Pt q) (h : L p = some (.lst ds)) : Stand (cu L p (.lst ds')) Cs Pt q :=
  ⟨by rw [cu_ne (fun z => by rw [← z, s.tab] at h; cases h)]; exact s.tab, kin_lst s.kin⟩
end SP

/-! What the law does with a session, step by step. -/
namespace SP
open PySem PySem.Spec PyProof.Rows L2 PD LamX
variable {g : Gb} {C CS CSc CE CN c Pt : Addr} {Cs : List Addr} {q0 : Str}
section
variable {l : Lc} {ρ : Rho} {no : Str} {po apos pos : Pos} {x : Expr} {L : Cels} {p q lc : Addr} {pp op : Int} {tn : Bool} {ps : List Str} {od : List Nat} {es : List Ed}
theorem okSx0 {pp op : Int} {ps : List Str} {od : List Nat} (v : VF "ab" ps od pp op) : okSx "ab" pp op (ps, od, none) := ⟨v, fun t e => by cases e⟩
theorem dem_edit {pl : Env → Sem Bool} (Kn : Kone g C CS CSc CE CN Cs c Pt q0) (st : Stand L Cs Pt q0) (I : Ses CS CSc L p q lc .non (msAt C pp op tn ps od es)) (v : VF "ab" ps od pp op) (ok : okEds "ab" tn (ps, od, none) es) (hl : es.length ≤ 900) {e : Ed} (he : okEd "ab" (stAt tn (ps, od, none) es es.length).1 (stAt tn (ps, od, none) es es.length).2.1 e)
    (ho : DE g l (.Name no po) ρ (.adr p)) (hx : DE g l x ρ e.d) (hk : 9 ≤ l.k := by decide) (hs : ∀ env, starEach [x] env = (false, eval x env) :: starEach [] env := by intro _; rfl) (ht : ∀ env, eval (.Call (.Attribute (.Name no po) "edit" apos) [x] [] pos) env = (do
      let ov ← eval (.Name no po) env; standAt apos.atName; let (f, first) ← holding [ov] (getMethod ov "edit" (pl env)); callWith pos f first (backTo pos (starEach [x] env)) (backToKw pos (keywordEach [] env))) := by intro _; rfl) (hcl : l.cb = true := by rfl) :
    DEM g l (.Call (.Attribute (.Name no po) "edit" apos) [x] [] pos) ρ (cM g.K L) (ansE tn (stAt tn (ps, od, none) es es.length) e) (cM g.K (cu L lc (.lst (msAt C pp op tn ps od (es ++ [e]))))) := by
  refine DER.one (DER.mono (der_meth (hcl := hcl) (ht := ht) Kn.S.cS Kn.Ed.v (insAt_c I.sp (nolk (by decide +kernel))) ho (da_cons hx da_nil hs) (sed_hist I st.kin Kn.hC hist_ms (okSx_at es.length (okSx0 v) ok) (by rw [msAt_len]; omega) he) hk hs) fun d' m' h' => ?_)
  obtain ⟨e1, e2⟩ := h'
  refine ⟨e1, ?_⟩
  rw [e2]
  unfold msAt
  rw [momsOf_app]
  rfl
theorem dem_editE {pl : Env → Sem Bool} {d' : DV} {L' : Cels} (Kn : Kone g C CS CSc CE CN Cs c Pt q0) (st : Stand L Cs Pt q0) (I : Ses CS CSc L p q lc .non (msAt C pp op tn ps od es)) (v : VF "ab" ps od pp op) (ok : okEds "ab" tn (ps, od, none) es) (hl : es.length ≤ 900) {e : Ed} (hd' : d' = ansE tn (stAt tn (ps, od, none) es es.length) e) (hL' : L' = cu L lc (.lst (msAt C pp op tn ps od (es ++ [e])))) (he : okEd "ab" (stAt tn (ps, od, none) es es.length).1 (stAt tn (ps, od, none) es es.length).2.1 e)
    (ho : DE g l (.Name no po) ρ (.adr p)) (hx : DE g l x ρ e.d) (hk : 9 ≤ l.k := by decide) (hs : ∀ env, starEach [x] env = (false, eval x env) :: starEach [] env := by intro _; rfl) (ht : ∀ env, eval (.Call (.Attribute (.Name no po) "edit" apos) [x] [] pos) env = (do
      let ov ← eval (.Name no po) env; standAt apos.atName; let (f, first) ← holding [ov] (getMethod ov "edit" (pl env)); callWith pos f first (backTo pos (starEach [x] env)) (backToKw pos (keywordEach [] env))) := by intro _; rfl) (hcl : l.cb = true := by rfl) :
    DEM g l (.Call (.Attribute (.Name no po) "edit" apos) [x] [] pos) ρ (cM g.K L) d' (cM g.K L') := by
  subst hd' hL'
  exact dem_edit Kn st I v ok hl he ho hx hk hs ht hcl
theorem dem_undo {pl : Env → Sem Bool} (Kn : Kone g C CS CSc CE CN Cs c Pt q0) {i : Nat} {e : Ed} (I : Ses CS CSc L p q lc .non (msAt C pp op tn ps od (es.take (i + 1)))) (hi : es[i]? = some e) (hl : es.length ≤ 900) (ho : DE g l (.Name no po) ρ (.adr p)) (hk : 3 ≤ l.k := by decide) (ht : ∀ env, eval (.Call (.Attribute (.Name no po) "undo" apos) [] [] pos) env = (do
      let ov ← eval (.Name no po) env; standAt apos.atName; let (f, first) ← holding [ov] (getMethod ov "undo" (pl env)); callWith pos f first (backTo pos (starEach [] env)) (backToKw pos (keywordEach [] env))) := by intro _; rfl) (hcl : l.cb = true := by rfl) :
    DEM g l (.Call (.Attribute (.Name no po) "undo" apos) [] [] pos) ρ (cM g.K L) (.tup [e.d, ansE tn (stAt tn (ps, od, none) es i) e]) (cM g.K (cu L lc (.lst (msAt C pp op tn ps od (es.take i))))) := by
  have hm := moms_last (C := C) (ls := "ab") (pp := pp) (op := op) (tn := tn) (s := (ps, od, none)) hi
  refine DER.one (der_meth0 (hcl := hcl) (ht := ht) Kn.S.cS Kn.Un.v (insAt_c I.sp (nolk (by decide +kernel))) ho ⟨L, p, q, lc, momD (fileD C "ab" ps od pp op tn) .non .non, momsOf C "ab" pp op tn (ps, od, none) (es.take (i + 1)), I, rfl, by rw [momsOf_len, List.length_take]; omega, rfl, .inr ⟨_, _, _, _, hm, rfl, rfl⟩⟩ hk)
theorem dem_undoE {pl : Env → Sem Bool} {d' : DV} {L' : Cels} (Kn : Kone g C CS CSc CE CN Cs c Pt q0) {i : Nat} {e : Ed} (I : Ses CS CSc L p q lc .non (msAt C pp op tn ps od (es.take (i + 1)))) (hi : es[i]? = some e) (hl : es.length ≤ 900) (hd' : d' = .tup [e.d, ansE tn (stAt tn (ps, od, none) es i) e]) (hL' : L' = cu L lc (.lst (msAt C pp op tn ps od (es.take i)))) (ho : DE g l (.Name no po) ρ (.adr p)) (hk : 3 ≤ l.k := by decide) (ht : ∀ env, eval (.Call (.Attribute (.Name no po) "undo" apos) [] [] pos) env = (do
      let ov ← eval (.Name no po) env; standAt apos.atName; let (f, first) ← holding [ov] (getMethod ov "undo" (pl env)); callWith pos f first (backTo pos (starEach [] env)) (backToKw pos (keywordEach [] env))) := by intro _; rfl) (hcl : l.cb = true := by rfl) :
    DEM g l (.Call (.Attribute (.Name no po) "undo" apos) [] [] pos) ρ (cM g.K L) d' (cM g.K L') := by
  subst hd' hL'
  exact dem_undo Kn I hi hl ho hk ht hcl
theorem dem_tried {pl : Env → Sem Bool} (Kn : Kone g C CS CSc CE CN Cs c Pt q0) (st : Stand L Cs Pt q0) (I : Ses CS CSc L p q lc .non (msAt C pp op tn ps od es)) (v : VF "ab" ps od pp op) (ok : okEds "ab" tn (ps, od, none) es) (hl : es.length ≤ 900) {more : List Ed} (hm : okEds "ab" tn (stAt tn (ps, od, none) es es.length) more) (hm20 : more.length ≤ 20)
    (ho : DE g l (.Name no po) ρ (.adr p)) (hx : DE g l x ρ (.lst (more.map Ed.d))) (hk : 10 ≤ l.k := by decide) (hs : ∀ env, starEach [x] env = (false, eval x env) :: starEach [] env := by intro _; rfl) (ht : ∀ env, eval (.Call (.Attribute (.Name no po) "tried" apos) [x] [] pos) env = (do
      let ov ← eval (.Name no po) env; standAt apos.atName; let (f, first) ← holding [ov] (getMethod ov "tried" (pl env)); callWith pos f first (backTo pos (starEach [x] env)) (backToKw pos (keywordEach [] env))) := by intro _; rfl) (hcl : l.cb = true := by rfl) :
    DEM g l (.Call (.Attribute (.Name no po) "tried" apos) [x] [] pos) ρ (cM g.K L) (.lst (anssOf tn (stAt tn (ps, od, none) es es.length) more)) (cM g.K L) := by
  refine DER.forget (DER.mono (der_meth (hcl := hcl) (ht := ht) Kn.S.cS Kn.Tr.v (insAt_c I.sp (nolk (by decide +kernel))) ho (da_cons hx da_nil hs) ⟨L, p, q, lc, .non, _, "ab", pp, op, tn, _, more.map Ed.d, I, st.kin, Kn.hC, hist_ms, okSx_at es.length (okSx0 v) ok, by rw [msAt_len]; omega, by rw [List.length_map]; omega, rfl, rfl, .inr (.inr ⟨more, rfl, hm20, hm, rfl, rfl⟩)⟩ hk hs) fun d' m' h' => ?_)
  obtain ⟨e1, L', e2, e3, _⟩ := h'
  exact ⟨e1, L', e2, e3⟩
/-- in a lambda: an edit that is none -/
theorem dew_edit {pl : Env → Sem Bool} (Kn : Kone g C CS CSc CE CN Cs c Pt q0) (st : Stand L Cs Pt q0) (I : Ses CS CSc L p q lc .non (msAt C pp op tn ps od es)) (v : VF "ab" ps od pp op) (ok : okEds "ab" tn (ps, od, none) es) (hl : es.length ≤ 900) {w : DV} (hf : fit w = true) (hw : isEd "ab" (stAt tn (ps, od, none) es es.length).1 (stAt tn (ps, od, none) es es.length).2.1 w = false)
    (ho : DE g l (.Name no po) ρ (.adr p)) (hx : DE g l x ρ w) (hk : 9 ≤ l.k := by decide) (hs : ∀ env, starEach [x] env = (false, eval x env) :: starEach [] env := by intro _; rfl) (ht : ∀ env, eval (.Call (.Attribute (.Name no po) "edit" apos) [x] [] pos) env = (do
      let ov ← eval (.Name no po) env; standAt apos.atName; let (f, first) ← holding [ov] (getMethod ov "edit" (pl env)); callWith pos f first (backTo pos (starEach [x] env)) (backToKw pos (keywordEach [] env))) := by intro _; rfl) (hcl : l.cb = true := by rfl) :
    DEW g l (.Call (.Attribute (.Name no po) "edit" apos) [x] [] pos) ρ (cM g.K L) (fun _ _ => False) (fun _ C' _ m' => C' = CE ∧ m' = cM g.K L) :=
  dew_meth (hcl := hcl) (ht := ht) Kn.S.cS Kn.Ed (insAt_c I.sp (nolk (by decide +kernel))) (dem_of ho) (dam_of (da_cons hx da_nil hs)) (sed_bad I st.kin Kn.hC hist_ms (okSx_at es.length (okSx0 v) ok) (by rw [msAt_len]; omega) hf hw) (fun C' gs m' ⟨a, _, b⟩ => ⟨a, b⟩) hk hs
theorem dew_tried {pl : Env → Sem Bool} (Kn : Kone g C CS CSc CE CN Cs c Pt q0) (st : Stand L Cs Pt q0) (I : Ses CS CSc L p q lc .non (msAt C pp op tn ps od es)) (v : VF "ab" ps od pp op) (ok : okEds "ab" tn (ps, od, none) es) (hl : es.length ≤ 900) {xs : List DV} (hx1 : xs.length ≤ 1000)
    (hw : 20 < xs.length ∨ ∃ w, xs = [w] ∧ fit w = true ∧ isEd "ab" (stAt tn (ps, od, none) es es.length).1 (stAt tn (ps, od, none) es es.length).2.1 w = false)
    (ho : DE g l (.Name no po) ρ (.adr p)) (hx : DE g l x ρ (.lst xs)) (hk : 10 ≤ l.k := by decide) (hs : ∀ env, starEach [x] env = (false, eval x env) :: starEach [] env := by intro _; rfl) (ht : ∀ env, eval (.Call (.Attribute (.Name no po) "tried" apos) [x] [] pos) env = (do
      let ov ← eval (.Name no po) env; standAt apos.atName; let (f, first) ← holding [ov] (getMethod ov "tried" (pl env)); callWith pos f first (backTo pos (starEach [x] env)) (backToKw pos (keywordEach [] env))) := by intro _; rfl) (hcl : l.cb = true := by rfl) :
    DEW g l (.Call (.Attribute (.Name no po) "tried" apos) [x] [] pos) ρ (cM g.K L) (fun _ _ => False) (fun _ C' _ m' => C' = CE ∧ m' = cM g.K L) := by
  refine DEW.forget (dew_meth (hcl := hcl) (ht := ht) (F := fun C' gs m' => C' = CE ∧ gs = [] ∧ ∃ L', m' = cM g.K L' ∧ Le L L' ∧ Kin L' Cs) Kn.S.cS Kn.Tr (insAt_c I.sp (nolk (by decide +kernel))) (dem_of ho) (dam_of (da_cons hx da_nil hs)) ⟨L, p, q, lc, .non, _, "ab", pp, op, tn, _, xs, I, st.kin, Kn.hC, hist_ms, okSx_at es.length (okSx0 v) ok, by rw [msAt_len]; omega, hx1, rfl, rfl, ?_⟩ (fun C' gs m' ⟨a, _, L', b, d, _⟩ => ⟨a, L', b, d⟩) hk hs)
  rcases hw with h | ⟨w, h1, h2, h3⟩
  · exact .inl ⟨h, rfl, rfl⟩
  · exact .inr (.inl ⟨w, h1, h2, h3, rfl, rfl⟩)
end
end SP

/-! _law_one_right. -/
namespace SP
open PySem PySem.Spec PyProof.Rows L2 PD LamX
variable {g : Gb} {C CS CSc CE CN c Pt : Addr} {Cs : List Addr} {q0 : Str}
theorem le_tab {L : Cels} (h : L Pt = some (.tab q0)) : Le (tabL Pt q0) L := fun a x e => by
  by_cases w : a = Pt
  · subst w
    unfold tabL at e
    rw [cu_same] at e
    rw [h, ← e]
  · unfold tabL at e
    rw [cu_ne w] at e
    cases e
theorem eqv_selfN {d : DV} (h : d.ok = true) : (!d.eqv d) = false := by rw [eqv_self h]; rfl
def R_lone (C : Addr) : List DV → DV → Prop := fun ds d => ∃ ps od pp op tn first more, VF "ab" ps od pp op ∧ ps.length ≤ 3 ∧ okEds "ab" tn (ps, od, none) (first ++ more) ∧ first.length = 10 ∧ more.length = 5 ∧ ds = [fileD C "ab" ps od pp op tn, .lst (first.map Ed.d), .lst (more.map Ed.d)] ∧ d = .bl true
theorem Ses.off {L : Cels} {p q l a : Addr} {out : DV} {ms : List DV} {x : Cel} (s : Ses CS CSc L p q l out ms) (h1 : a ≠ p) (h2 : a ≠ q) (h3 : a ≠ l) : Ses CS CSc (cu L a x) p q l out ms :=
  ⟨by rw [cu_ne (Ne.symm h1)]; exact s.sp, by rw [cu_ne (Ne.symm h2)]; exact s.sq, by rw [cu_ne (Ne.symm h3)]; exact s.sl⟩
theorem cut_10 {α : Type} (xs : List α) : cutG xs (some (10 : Int)) none = xs.drop 10 := cutG_from (k := 10)
theorem stepE_len {tn : Bool} (s : Sx) (e : Ed) : (stepE tn s e).1.length = s.1.length := by
  cases e with
  | aim t => rfl
  | wr w =>
    have ha : (afterP s.1 w).length = s.1.length := by
      cases w with
      | piece b p => exact List.length_set ..
      | order o => rfl
    unfold stepE edRes
    by_cases h1 : safeOf s.1 s.2.1 w tn (s.2.2.getD (textOf s.1 s.2.1)) = true
    · simp only [if_pos h1]
      by_cases h2 : textOf (afterP s.1 w) (afterO s.2.1 w) = textOf s.1 s.2.1
      · simp only [if_pos h2]; exact ha
      · simp only [if_neg h2]; exact ha
    · simp only [if_neg h1]
theorem stAt_len {tn : Bool} : ∀ (es : List Ed) (s : Sx) (i : Nat), (stAt tn s es i).1.length = s.1.length
  | [], s, i => by unfold stAt; rw [List.take_nil]; rfl
  | e :: es, s, 0 => rfl
  | e :: es, s, i + 1 => (stAt_len es (stepE tn s e) i).trans (stepE_len s e)
theorem cutEnd {α : Type} (xs : List α) (n : Nat) (h : xs.length = n + 1) : cutG xs none (some (-1)) = xs.take n := by
  have e1 : HT.sIx xs.length 0 none = 0 := rfl
  have e2 : HT.sIx xs.length xs.length (some (-1)) = n := by
    unfold HT.sIx
    rw [h]
    show _ = _
    simp
    omega
  unfold cutG
  rw [e1, e2, List.drop_zero, Nat.sub_zero]
theorem pair_ok {e : Ed} {a : DV} {ps : List Str} {od : List Nat} (h : okEd "ab" ps od e) (ha : a.plain = true ∧ a.dep ≤ 3) : (DV.tup [e.d, a]).ok = true := by
  have := tup2_pl (n := 3) (ed_pl h) ha
  unfold DV.ok
  rw [this.1, Bool.true_and]
  exact decide_eq_true (by omega)
theorem ok_lone {n : Nat} (Kn : Kone g C CS CSc CE CN Cs c Pt q0) {f : Addr} {fd : FuncData} (F : FunC g.K "_law_one_right" "_law_one_right" s__law_one_right c f fd) (hq : ("_law_one_right" : Str) ++ ".<locals>." ++ "<lambda>" = q0) : FnOkN g.P g.w g.K g.mg g.base CX0 13 n f fd ["_law_file_here", "_law_first", "_law_more"] (spT g.K [(Pt, q0)] (R_lone C)) := by
  refine fn_okC F hq scLOne (fun ds d ⟨_, _, _, _, _, _, _, _, _, _, _, _, e, _⟩ => by rw [e]; rfl) fun ds d ⟨ps, od, pp, op, tn, first, more, v, h3, hok, hf10, hm5, e, ed⟩ => ?_
  subst e ed
  have B := Kn.B
  obtain ⟨okF, okM⟩ := okEds_app.mp hok
  have okS1 : (DV.str "nothing").ok = true := okS (by decide +kernel)
  have okS2 : (DV.str "edit").ok = true := okS (by decide +kernel)
  have kin0 : Kin (tabL Pt q0) Cs := fun a C' gs h => by
    unfold tabL at h
    by_cases w : a = Pt
    · rw [w, cu_same] at h; cases h
    · rw [cu_ne w] at h; cases h
  have tab0 : tabL Pt q0 Pt = some (.tab q0) := cu_same
  -- _law_session, _law_many
  refine dssc_cons (dsc_m (dsm_asg2 (R1 := fun d m' => ∃ x, tabL Pt q0 x = none ∧ d = .adr x ∧ ∃ L' q l, (cu (tabL Pt q0) x (.ins CS [])) q = none ∧ (cu (tabL Pt q0) x (.ins CS [])) l = none ∧ m' = cM g.K L' ∧ (∀ a, a ≠ x → ∀ c, (cu (tabL Pt q0) x (.ins CS [])) a = some c → L' a = some c) ∧ SP.Kn CS CSc (cu (tabL Pt q0) x (.ins CS [])) L' ∧ Ses CS CSc L' x q l .non [momD (fileD C "ab" ps od pp op tn) .non .non]) (d2 := .int 10)
    (der_makeC Kn.Ms.v (da_cons (de_v 0) da_nil) (fun x hx => ⟨_, x, _, cu_same, rfl, rfl, rfl, rfl⟩)) (fun d m' _ => dem_of (DE.is (de_len B.len (ds := first.map Ed.d) rfl (de_v 1)) (by rw [List.length_map, hf10]; rfl))) fun d1 m' hR => ?_))
  obtain ⟨x, hx, rfl, L1, q1, l1, _, _, rfl, keep, kn, I1⟩ := hR
  refine ⟨_, _, dg_tup (dgs_cons (dg_n 3 scLOne.nd) (dgs_cons (dg_n 4 scLOne.nd) dgs_nil)), ?_⟩
  have st1 : Stand L1 Cs Pt q0 := ⟨keep Pt (fun z => by rw [← z, tab0] at hx; cases hx) _ (by rw [cu_ne (fun z => by rw [← z, tab0] at hx; cases hx)]; exact tab0), kn Cs (kin_ins kin0 Kn.hCS) Kn.hCS Kn.hCSc⟩
  have I1 : Ses CS CSc L1 x q1 l1 .non (msAt C pp op tn ps od []) := I1
  clear keep kn hx
  -- undo at the start; is_at []
  refine dssc_cons (dsc_if (x := false) (dtc_or (x := false) (DTC.is (dtc_neD okS1 okS1 (dec_lamW (k := 10) (vs := [7]) Kn.Wd Kn.TB st1.tab rfl (de_v 3) .n (dew_meth0 Kn.S.cS Kn.Un (insAt_c I1.sp (nolk (by decide +kernel))) (dem_of (de_v 12)) ⟨L1, x, q1, l1, _, [], I1, rfl, by simp, rfl, .inl ⟨rfl, rfl, rfl⟩⟩ (fun C' gs m' ⟨a, _, b⟩ => ⟨a, b⟩))) de_str) (eqv_selfN okS1)) (dtc_m (DTM.is (dtm_not (dtm_at 3 Kn.Is I1 rfl v trivial (by simp) (de_v 3) (de_v 0) (dl_lst da_nil).de)) rfl)) rfl) (fun z => by cases z) fun _ => dssc_nil ?_)
  -- the first edits
  have L2e : (fun i => cu L1 l1 (.lst (msAt C pp op tn ps od (first.take i)))) 0 = L1 := cu_id I1.sl
  have Iat : ∀ i, Ses CS CSc (cu L1 l1 (.lst (msAt C pp op tn ps od (first.take i)))) x q1 l1 .non (msAt C pp op tn ps od (first.take i)) := fun i => I1.put
  have sAt : ∀ i, i ≤ 10 → stAt tn (ps, od, none) (first.take i) (first.take i).length = stAt tn (ps, od, none) first i := fun i hi => by
    unfold stAt
    rw [List.take_take, Nat.min_eq_left (by rw [List.length_take]; omega), List.length_take, Nat.min_eq_left (by omega)]
  have okA := anss_ok (tn := tn) (s := (ps, od, none)) (es := first)
  refine dssc_cons (dsc_m (dsm_if (b := false) (DTM.is (dtm_neD okA okA (dem_lcE (ds := first.map Ed.d) (ds' := anssOf tn (ps, od, none) first) (own := [("_law_edit_here", 11)]) (is := [11]) (fun i => cu L1 l1 (.lst (msAt C pp op tn ps od (first.take i)))) (fun i => ansE tn (stAt tn (ps, od, none) first i) (first.getD i (.aim ""))) L2e (L' := cu L1 l1 (.lst (msAt C pp op tn ps od first))) (by show cu L1 l1 (.lst (msAt C pp op tn ps od (first.take (first.map Ed.d).length))) = _; rw [List.length_map, List.take_length]) (by rw [List.length_map]; rfl) rfl scLOne.nd (by decide +kernel) (di_l (de_v 1)) (by rw [List.length_map]; omega) (by decide) rfl
      (fun d => [.val (fileD C "ab" ps od pp op tn), .val (.lst (first.map Ed.d)), .val (.lst (more.map Ed.d)), .val (.adr x), .val (.int 10), .un, .un, .un, .un, .un, .un, .val d]) (fun d hd => rfl) (fun d hd => dg_n 11 scLOne.nd) (fun i a _ e => by
        by_cases w : a = l1
        · rw [w, cu_same] at e; cases e
        · rw [cu_ne w] at e ⊢; exact e) (fun i d hd => ?_))
      (de_ixT (xs := [stP ((stAt tn (ps, od, none) first first.length).1, (stAt tn (ps, od, none) first first.length).2.1), aimD (stAt tn (ps, od, none) first first.length).2.2, .lst (anssOf tn (ps, od, none) first)]) (i := 2) (d := .lst (anssOf tn (ps, od, none) first)) rfl (de_call Kn.Do (da_cons (de_v 0) (da_cons (de_v 1) da_nil)) ⟨ps, od, pp, op, tn, first, v, okF, by omega, rfl, rfl⟩) de_int)) (eqv_selfN okA)) (fun z => by cases z) fun _ => dssm_nil ?_))
  · rw [List.getElem?_map] at hd
    obtain ⟨e, he, rfl⟩ := Option.map_eq_some_iff.mp hd
    have hi := (List.getElem?_eq_some_iff.mp he).1
    have eg : first.getD i (.aim "") = e := by rw [List.getD_eq_getElem?_getD, he]; rfl
    exact dem_editE Kn (st1.put (ds' := msAt C pp op tn ps od (first.take i)) I1.sl) (Iat i) v (okEds_take i okF) (by rw [List.length_take]; omega) (e := e) (by rw [sAt i (by omega)]; show ansE tn _ (first.getD i _) = _; rw [eg]) (by rw [cu_cu, ← take_more he]) (by rw [sAt i (by omega)]; exact okEds_get okF he) (de_v 3) (de_v 11)
  have I2 : Ses CS CSc (cu L1 l1 (.lst (msAt C pp op tn ps od first))) x q1 l1 .non (msAt C pp op tn ps od first) := I1.put
  have st2 := st1.put (ds' := msAt C pp op tn ps od first) I1.sl
  clear L2e Iat
  generalize cu L1 l1 (.lst (msAt C pp op tn ps od first)) = L2 at I2 st2 ⊢
  clear I1 st1
  -- is_at first
  refine dssc_cons (dsc_m (dsm_if (b := false) (DTM.is (dtm_not (dtm_at 3 Kn.Is I2 rfl v okF (by omega) (de_v 3) (de_v 0) (de_v 1))) rfl) (fun z => by cases z) fun _ => dssm_nil ?_))
  -- the branch
  obtain ⟨mz, prz, hz⟩ := hist_ms (C := C) (pp := pp) (op := op) (tn := tn) (ps := ps) (od := od) (es := first)
  have ke := okSx_at first.length (okSx0 v) okF
  have lz : mz.length = 10 := by
    have := congrArg List.length hz
    rw [msAt_len, List.length_append, List.length_singleton] at this
    omega
  refine dssc_cons (dsc_m (dsm_setR 5 scLOne.nd (der_meth0 Kn.S.cS Kn.Br.v (insAt_c I2.sp (nolk (by decide +kernel))) (de_v 3) ⟨L2, x, q1, l1, .non, mz, "ab", _, _, pp, op, tn, _, prz, ⟨by rw [hz] at I2; exact I2, st2.kin, Kn.hC, ke.v, ke.a, by omega⟩, rfl, rfl, rfl, rfl⟩) fun d m' hR => ?_))
  obtain ⟨L3, y, q3, l3, rfl, rfl, ny, nq, nl, le3, kn3, I3⟩ := hR
  have I3 : Ses CS CSc L3 y q3 l3 .non (msAt C pp op tn ps od first) := by rw [hz]; exact I3
  have J2 : Ses CS CSc L3 x q1 l1 .non (msAt C pp op tn ps od first) := I2.le le3
  have st3 : Stand L3 Cs Pt q0 := ⟨le3 _ _ st2.tab, kn3 Cs st2.kin Kn.hCS Kn.hCSc⟩
  have some_ne : ∀ {a b : Addr} {z : Cel}, L2 a = none → L2 b = some z → a ≠ b := fun h1 h2 w => by rw [w, h2] at h1; cases h1
  have a1 : y ≠ l1 := some_ne ny I2.sl
  have a2 : q3 ≠ l1 := some_ne nq I2.sl
  have a3 : l3 ≠ l1 := some_ne nl I2.sl
  have a4 : l3 ≠ x := some_ne nl I2.sp
  have a5 : l3 ≠ q1 := some_ne nl I2.sq
  have a6 : l3 ≠ l1 := a3
  clear some_ne ny nq nl le3 kn3 st2 I2
  -- tried
  have e10 : anssOf tn (ps, od, none) (first ++ more) = anssOf tn (ps, od, none) first ++ anssOf tn (stAt tn (ps, od, none) first first.length) more := anssOf_app _ _ _
  have okM2 := anss_ok (tn := tn) (s := stAt tn (ps, od, none) first first.length) (es := more)
  refine dssc_cons (dsc_m (dsm_if (b := false) (dtm_or (x := false) (DTM.is (dtm_neD okM2 okM2 (dem_tried Kn st3 J2 v okF (by omega) okM (by omega) (de_v 3) (de_v 2)) (DE.is (de_slL (i := some 10) (j := none) (xs := anssOf tn (ps, od, none) (first ++ more)) (de_ixT (xs := [stP ((stAt tn (ps, od, none) (first ++ more) (first ++ more).length).1, (stAt tn (ps, od, none) (first ++ more) (first ++ more).length).2.1), aimD (stAt tn (ps, od, none) (first ++ more) (first ++ more).length).2.2, .lst (anssOf tn (ps, od, none) (first ++ more))]) (i := 2) rfl (de_call Kn.Do (da_cons (de_v 0) (da_cons (DE.is (de_catL (i := first.map Ed.d) (j := more.map Ed.d) (by rw [List.length_map, List.length_map]; omega) (de_v 1) (de_v 2)) (by rw [← List.map_append])) da_nil)) ⟨ps, od, pp, op, tn, first ++ more, v, hok, by rw [List.length_append]; omega, rfl, rfl⟩) de_int) (dp_some (de_v 4)) dp_none) (by rw [cut_10, e10, List.drop_left' (by rw [anssOf_len]; exact hf10)]))) (eqv_selfN okM2)) (DTM.is (dtm_not (dtm_at 3 Kn.Is J2 rfl v okF (by omega) (de_v 3) (de_v 0) (de_v 1))) rfl) rfl) (fun z => by cases z) fun _ => dssm_nil ?_))
  -- what is no edit
  have l3s := stAt_len (tn := tn) first (ps, od, none) first.length
  have l3s : (stAt tn (ps, od, none) first first.length).1.length ≤ 3 := by rw [l3s]; exact h3
  have hzA : [sesD CS CSc (msAt C pp op tn ps od first) .non] = [sesD CS CSc (mz ++ [momD (fileS C "ab" pp op tn (stAt tn (ps, od, none) first first.length)) (aimD (stAt tn (ps, od, none) first first.length).2.2) prz]) .non] := by rw [hz]
  have bads := bad_is (stAt tn (ps, od, none) first first.length).1 (stAt tn (ps, od, none) first first.length).2.1 l3s ke.v.v.hod
  refine dssc_cons (dsc_pl (ds_set 6 scLOne.nd (d := .lst bad1) (dl_lst (da_cons de_non (da_cons de_int (da_cons de_str (da_cons (de_tup (da_cons de_str da_nil)) da_nil))))).de ?_))
  refine dssc_cons (dsc_m (dsm_set 6 scLOne.nd (d := .lst (bad1 ++ bad2 (stAt tn (ps, od, none) first first.length).2.1)) (dem_catL (i := bad1) (j := bad2 (stAt tn (ps, od, none) first first.length).2.1) (show 4 + 4 ≤ 100000 by decide) (dem_of (de_v 6)) (dem_lst (dam_cons (dem_of (de_tup (da_cons de_str (da_cons de_str da_nil)))) (dam_cons (dem_of (de_tup (da_cons de_str (da_cons de_non da_nil)))) (dam_cons (dem_tup (dam_cons (dem_of de_str) (dam_cons (dem_tup (dam_cons (dem_of de_str) (dam_cons (dem_lendC 3 st3.kin J2.vc rfl (de_od Kn.L Kn.P (de_prop Kn.S.cS Kn.Cu ⟨mz, _, _, prz, .non, hzA, rfl⟩ (de_v 3))) (by rw [DV.cln]; exact cln_odD _ _)) dam_nil)) (show 2 ≤ 100000 by decide)) dam_nil)) (show 2 ≤ 100000 by decide)) (dam_cons (dem_of (dl_lst (da_cons de_str (da_cons de_str da_nil))).de) dam_nil)))) (show 4 ≤ 100000 by decide))) ?_))
  refine dssc_cons (dsc_pl (ds_set 6 scLOne.nd (d := .lst ((bad1 ++ bad2 (stAt tn (ps, od, none) first first.length).2.1) ++ bad3)) (de_catL (i := bad1 ++ bad2 (stAt tn (ps, od, none) first first.length).2.1) (j := bad3) (show 8 + 3 ≤ 100000 by decide) (de_v 6) (dl_lst (da_cons (de_tup (da_cons de_str (da_cons de_str da_nil))) (da_cons (de_tup (da_cons de_str (da_cons de_non da_nil))) (da_cons (de_tup (da_cons de_str (da_cons (de_repS (z := "a") (k := 7) (by decide) (by decide) (by decide +kernel) (by decide +kernel) (by decide +kernel) de_str de_int) da_nil))) da_nil)))).de) ?_))
  refine dssc_cons (dsc_for (is := [7]) (di_l (ds := badsE (stAt tn (ps, od, none) first first.length).2.1) (de_catL (i := (bad1 ++ bad2 (stAt tn (ps, od, none) first first.length).2.1) ++ bad3) (j := bad4L) (show 11 + 3 ≤ 100000 by decide) (de_v 6) (dl_lst (da_cons (de_tup (da_cons de_str (da_cons (de_tup (da_cons de_str (da_cons de_int (da_cons de_str da_nil)))) da_nil))) (da_cons (de_tup (da_cons de_non (da_cons de_str da_nil))) (da_cons (de_tup (da_cons de_str (da_cons de_str (da_cons de_int da_nil)))) da_nil)))).de))
    (fun i ρ m => ∃ x7 : EV, x7.isOwn = false ∧ m = cM g.K L3 ∧ ρ = [.val (fileD C "ab" ps od pp op tn), .val (.lst (first.map Ed.d)), .val (.lst (more.map Ed.d)), .val (.adr x), .val (.int 10), .val (.adr y), .val (.lst ((bad1 ++ bad2 (stAt tn (ps, od, none) first first.length).2.1) ++ bad3)), x7, .un, .un, .un, .un]) ⟨.un, rfl, rfl, rfl⟩ ?_ ?_)
  · rintro i d ρ m hd ⟨x7, n7, rfl, rfl⟩
    obtain ⟨hfit, hbad⟩ := bads d (List.mem_of_getElem? hd)
    refine ⟨_, dg_n 7 scLOne.nd, ?_⟩
    refine dssc_cons (dsc_if (x := false) (DTC.is (dtc_neD okS2 okS2 (dec_lamW (k := 10) (vs := []) Kn.Wd Kn.TB st3.tab rfl (de_v 7) .e (dew_edit Kn st3 J2 v okF (by omega) hfit hbad (de_v 3) (de_v 12))) de_str) (eqv_selfN okS2)) (fun z => by cases z) fun _ => dssc_nil ?_)
    exact dssc_one (dsc_if (x := false) (DTC.is (dtc_neD okS2 okS2 (dec_lamW (k := 10) (vs := []) Kn.Wd Kn.TB st3.tab rfl (dl_lst (da_cons (de_v 7) da_nil)).de .e (dew_tried Kn st3 J2 v okF (by omega) (xs := [d]) (by simp) (.inr ⟨d, rfl, hfit, hbad⟩) (de_v 3) (de_v 12))) de_str) (eqv_selfN okS2)) (fun z => by cases z) fun _ => dssc_nil ⟨.val d, rfl, rfl, rfl⟩)
  rintro ρ m ⟨x7, n7, rfl, rfl⟩
  have no7 : noOwn [.val (fileD C "ab" ps od pp op tn), .val (.lst (first.map Ed.d)), .val (.lst (more.map Ed.d)), .val (.adr x), .val (.int 10), .val (.adr y), .val (.lst ((bad1 ++ bad2 (stAt tn (ps, od, none) first first.length).2.1) ++ bad3)), x7, .un, .un, .un, .un] = true := by
    unfold noOwn
    simp only [List.all_cons, List.all_nil, n7]
    rfl
  refine dssc_cons (dsc_if (x := false) (DTC.is (dtc_neD okS2 okS2 (dec_lamW (k := 10) (vs := []) Kn.Wd Kn.TB st3.tab no7 (de_repL (k := 21) (ds := [.tup [.str "aim", .str "a"]]) (by decide) (by decide) (dl_lst (da_cons (de_tup (da_cons de_str (da_cons de_str da_nil))) da_nil)) de_int) .e (dew_tried Kn st3 J2 v okF (by omega) (xs := (List.replicate 21 [.tup [.str "aim", .str "a"]]).flatten) (show 21 ≤ 1000 by decide) (.inl (show 20 < 21 by decide)) (de_v 3) (de_v 12))) de_str) (eqv_selfN okS2)) (fun z => by cases z) fun _ => dssc_nil ?_)
  refine dssc_cons (dsc_m (dsm_if (b := false) (DTM.is (dtm_not (dtm_at 3 Kn.Is J2 rfl v okF (by omega) (de_v 3) (de_v 0) (de_v 1))) rfl) (fun z => by cases z) fun _ => dssm_nil ?_))
  clear bads hzA okS1 okS2 okM2 e10
  generalize DV.lst ((bad1 ++ bad2 (stAt tn (ps, od, none) first first.length).2.1) ++ bad3) = dbad
  -- undone, one by one
  have nlA : ∀ {i : Nat}, i < 10 → ∃ e, first[i]? = some e ∧ okEd "ab" (stAt tn (ps, od, none) first i).1 (stAt tn (ps, od, none) first i).2.1 e := fun {i} hi => ⟨first[i]'(by omega), List.getElem?_eq_getElem _, okEds_get okF (List.getElem?_eq_getElem (by omega))⟩
  have JI : ∀ j, Ses CS CSc (cu L3 l1 (.lst (msAt C pp op tn ps od (first.take j)))) x q1 l1 .non (msAt C pp op tn ps od (first.take j)) := fun j => J2.put
  refine dssc_cons (dsc_m (dsm_for (is := [8]) (di_dn (i := 9) (j := 5) B.range (DE.is (de_sub (de_v 4) de_int) rfl) (DE.is (de_fdiv ⟨by decide, by decide⟩ (de_v 4) de_int) rfl) (de_neg de_int) (by decide) (by decide))
    (fun k ρ m => ∃ x8 : EV, x8.isOwn = false ∧ k ≤ 4 ∧ m = cM g.K (cu L3 l1 (.lst (msAt C pp op tn ps od (first.take (10 - k))))) ∧ ρ = [.val (fileD C "ab" ps od pp op tn), .val (.lst (first.map Ed.d)), .val (.lst (more.map Ed.d)), .val (.adr x), .val (.int 10), .val (.adr y), .val dbad, x7, x8, .un, .un, .un]) ⟨.un, rfl, by decide, by rw [List.take_of_length_le (by omega), cu_id J2.sl], rfl⟩ ?_ ?_))
  · rintro k d ρ m hd ⟨x8, n8, hk, rfl, rfl⟩
    have hk4 : k < 4 := by
      have := (List.getElem?_eq_some_iff.mp hd).1
      unfold downD at this
      rw [List.length_map, List.length_range] at this
      exact this
    obtain ⟨i, hi⟩ : ∃ i : Nat, i = 9 - k := ⟨_, rfl⟩
    have ed : d = .int (i : Int) := by
      unfold downD at hd
      rw [List.getElem?_map, List.getElem?_range (by exact hk4)] at hd
      cases hd
      show DV.int ((9 : Int) + (k : Int) * (-1)) = DV.int (i : Int)
      congr 1
      omega
    subst ed
    have e10k : 10 - k = i + 1 := by omega
    have e10k1 : 10 - (k + 1) = i := by omega
    obtain ⟨e, he, hoe⟩ := nlA (i := i) (by omega)
    rw [e10k, e10k1]
    refine ⟨_, dg_n 8 scLOne.nd, ?_⟩
    have ok2 := pair_ok hoe (ans_pl (tn := tn) (s := stAt tn (ps, od, none) first i) (e := e))
    refine dssm_cons (dsm_if (b := false) (DTM.is (dtm_neD ok2 ok2 (dem_undoE Kn (JI (i + 1)) he (by omega) rfl (cu_cu (c := .lst (msAt C pp op tn ps od (first.take (i + 1)))) (c' := .lst (msAt C pp op tn ps od (first.take i)))).symm (de_v 3)) (de_tup (da_cons (de_ixL (i := (i : Int)) (xs := first.map Ed.d) (d := e.d) (atI_nat (by rw [List.getElem?_map, he]; rfl)) (de_v 1) (de_v 8)) (da_cons (de_ixL (i := (i : Int)) (xs := anssOf tn (ps, od, none) first) (atI_nat (anss_at he)) (de_ixT (xs := [stP ((stAt tn (ps, od, none) first first.length).1, (stAt tn (ps, od, none) first first.length).2.1), aimD (stAt tn (ps, od, none) first first.length).2.2, .lst (anssOf tn (ps, od, none) first)]) (i := 2) rfl (de_call Kn.Do (da_cons (de_v 0) (da_cons (de_v 1) da_nil)) ⟨ps, od, pp, op, tn, first, v, okF, by omega, rfl, rfl⟩) de_int) (de_v 8)) da_nil)))) (eqv_selfN ok2)) (fun z => by cases z) fun _ => dssm_nil ?_)
    exact dssm_one (dsm_if (b := false) (DTM.is (dtm_not (dtm_at 3 Kn.Is (JI i) rfl v (okEds_take i okF) (by rw [List.length_take]; omega) (de_v 3) (de_v 0) (DE.is (de_slL (i := none) (j := some (i : Int)) (xs := first.map Ed.d) (de_v 1) dp_none (dp_some (de_v 8))) (by rw [cutG_to (by rw [List.length_map]; omega), List.map_take])))) rfl) (fun z => by cases z) fun _ => dssm_nil ⟨.val (.int (i : Int)), rfl, by omega, rfl, rfl⟩)
  rintro ρ m ⟨x8, n8, _, rfl, rfl⟩
  have hlen4 : (downD 9 ((9 : Int) - 5).toNat).length = 4 := rfl
  rw [hlen4]
  have J6 := JI 6
  have K3 : Ses CS CSc (cu L3 l1 (.lst (msAt C pp op tn ps od (first.take 6)))) y q3 l3 .non (msAt C pp op tn ps od first) := Ses.off I3 (Ne.symm a1) (Ne.symm a2) (Ne.symm a3)
  have st4 := st3.put (ds' := msAt C pp op tn ps od (first.take 6)) J2.sl
  show DSsC g n loL c q0 _ _ (cM g.K (cu L3 l1 (.lst (msAt C pp op tn ps od (first.take 6))))) _
  clear JI J2 I3 st3 a1 a2 a3
  generalize cu L3 l1 (.lst (msAt C pp op tn ps od (first.take 6))) = L4 at J6 K3 st4 ⊢
  -- the branch: undone, two aims
  obtain ⟨e9, he9, _⟩ := nlA (i := 9) (by omega)
  have f10 : first.take (9 + 1) = first := List.take_of_length_le (by omega)
  have K3' : Ses CS CSc L4 y q3 l3 .non (msAt C pp op tn ps od (first.take (9 + 1))) := by rw [f10]; exact K3
  refine dssc_cons (dsc_m (dsm_ex (dem_undoE Kn K3' he9 (by omega) rfl rfl (de_v 5)) ?_))
  have K5 : Ses CS CSc (cu L4 l3 (.lst (msAt C pp op tn ps od (first.take 9)))) y q3 l3 .non (msAt C pp op tn ps od (first.take 9)) := K3.put
  have st5 := st4.put (ds' := msAt C pp op tn ps od (first.take 9)) K3.sl
  have J5 : Ses CS CSc (cu L4 l3 (.lst (msAt C pp op tn ps od (first.take 9)))) x q1 l1 .non (msAt C pp op tn ps od (first.take 6)) := Ses.off J6 a4 a5 a6
  clear K3' K3 st4 J6
  generalize cu L4 l3 (.lst (msAt C pp op tn ps od (first.take 9))) = L5 at K5 st5 J5 ⊢
  have okAB : ∀ (s : Sx) (z : Str), wordOk "ab" 6 z = true → okEd "ab" s.1 s.2.1 (.aim z) := fun s z h => h
  have wA : wordOk "ab" 6 "a" = true := by decide +kernel
  have wB : wordOk "ab" 6 "b" = true := by decide +kernel
  have okT : ∀ i, okEds "ab" tn (ps, od, none) (first.take 9 ++ ([Ed.aim "a", Ed.aim "b"]).take i) := fun i => okEds_app.mpr ⟨okEds_take 9 okF, okEds_take i ⟨wA, wB, trivial⟩⟩
  have KI : ∀ i, Ses CS CSc (cu L5 l3 (.lst (msAt C pp op tn ps od (first.take 9 ++ ([Ed.aim "a", Ed.aim "b"]).take i)))) y q3 l3 .non (msAt C pp op tn ps od (first.take 9 ++ ([Ed.aim "a", Ed.aim "b"]).take i)) := fun i => K5.put
  have nox : noOwn [.val (fileD C "ab" ps od pp op tn), .val (.lst (first.map Ed.d)), .val (.lst (more.map Ed.d)), .val (.adr x), .val (.int 10), .val (.adr y), .val dbad, x7, x8, .un, .un, .un] = true := by
    unfold noOwn
    simp only [List.all_cons, List.all_nil, n7, n8]
    rfl
  refine dssc_cons (dsc_m (dsm_lcE (is := [7]) (own := [("_law_one", 7)]) (ds := [.str "a", .str "b"]) 9 (fun i => cu L5 l3 (.lst (msAt C pp op tn ps od (first.take 9 ++ ([Ed.aim "a", Ed.aim "b"]).take i)))) (fun _ => .non) (L' := cu L5 l3 (.lst (msAt C pp op tn ps od (first.take 9 ++ [Ed.aim "a", Ed.aim "b"])))) (ds' := [.non, .non]) (by show cu L5 l3 (.lst (msAt C pp op tn ps od (first.take 9 ++ []))) = L5; rw [List.append_nil]; exact cu_id K5.sl) rfl rfl scLOne.nd (by decide +kernel) (di_t (de_tup (da_cons de_str (da_cons de_str da_nil)))) (by decide) (by decide) nox
      (fun d => [.val (fileD C "ab" ps od pp op tn), .val (.lst (first.map Ed.d)), .val (.lst (more.map Ed.d)), .val (.adr x), .val (.int 10), .val (.adr y), .val dbad, .val d, x8, .un, .un, .un]) (fun d hd => by
        unfold noOwn
        simp only [List.all_cons, List.all_nil, n8]
        rfl) (fun d hd => dg_n 7 scLOne.nd) (fun i a _ e => by
        by_cases w : a = l3
        · rw [w, cu_same] at e; cases e
        · rw [cu_ne w] at e ⊢; exact e) (fun i d hd => ?_) ?_))
  · have hi2 : i < 2 := (List.getElem?_eq_some_iff.mp hd).1
    obtain ⟨z, rfl, hz2, hz3⟩ : ∃ z : Str, d = .str z ∧ wordOk "ab" 6 z = true ∧ ([Ed.aim "a", Ed.aim "b"]).take (i + 1) = ([Ed.aim "a", Ed.aim "b"]).take i ++ [Ed.aim z] := by
      match i, hi2 with
      | 0, _ => exact ⟨"a", (Option.some.inj hd).symm, wA, rfl⟩
      | 1, _ => exact ⟨"b", (Option.some.inj hd).symm, wB, rfl⟩
    exact dem_editE Kn (st5.put (ds' := msAt C pp op tn ps od (first.take 9 ++ ([Ed.aim "a", Ed.aim "b"]).take i)) K5.sl) (KI i) v (okT i) (by rw [List.length_append, List.length_take, List.length_take]; show _ + min i 2 ≤ 900; omega) (e := .aim z) rfl (by rw [cu_cu, hz3, List.append_assoc]) (okAB _ z hz2) (de_v 5) (de_tup (da_cons de_str (da_cons (de_v 7) da_nil)))
  have st6 := st5.put (ds' := msAt C pp op tn ps od (first.take 9 ++ [Ed.aim "a", Ed.aim "b"])) K5.sl
  have K6 : Ses CS CSc (cu L5 l3 (.lst (msAt C pp op tn ps od (first.take 9 ++ [Ed.aim "a", Ed.aim "b"])))) y q3 l3 .non (msAt C pp op tn ps od (first.take 9 ++ [Ed.aim "a", Ed.aim "b"])) := K5.put
  have J7 : Ses CS CSc (cu L5 l3 (.lst (msAt C pp op tn ps od (first.take 9 ++ [Ed.aim "a", Ed.aim "b"])))) x q1 l1 .non (msAt C pp op tn ps od (first.take 6)) := Ses.off J5 a4 a5 a6
  have okT2 := okT 2
  have okT2 : okEds "ab" tn (ps, od, none) (first.take 9 ++ [Ed.aim "a", Ed.aim "b"]) := okT2
  clear KI okT st5 K5 J5
  generalize cu L5 l3 (.lst (msAt C pp op tn ps od (first.take 9 ++ [Ed.aim "a", Ed.aim "b"]))) = L6 at K6 st6 J7 ⊢
  refine dssc_cons (dsc_pl (ds_set 10 scLOne.nd (d := .lst ((first.take 9 ++ [Ed.aim "a", Ed.aim "b"]).map Ed.d)) (DE.is (de_catL (i := (first.take 9).map Ed.d) (j := [(Ed.aim "a").d, (Ed.aim "b").d]) (by rw [List.length_map, List.length_take]; show _ + 2 ≤ 100000; omega) (DE.is (de_slL (i := none) (j := some (-1)) (xs := first.map Ed.d) (de_v 1) dp_none (dp_some (de_neg de_int))) (by rw [cutEnd _ 9 (by rw [List.length_map]; omega), List.map_take])) (dl_lst (da_cons (de_tup (da_cons de_str (da_cons de_str da_nil))) (da_cons (de_tup (da_cons de_str (da_cons de_str da_nil))) da_nil))).de) (by rw [List.map_append]; rfl)) ?_))
  have okNN : (DV.lst [.non, .non]).ok = true := by decide +kernel
  refine dssc_cons (dsc_m (dsm_if (b := false) (dtm_or (x := false) (dtm_of (DT.is (dt_neD okNN okNN (de_v 9) (dl_lst (da_cons de_non (da_cons de_non da_nil))).de) (eqv_selfN okNN))) (DTM.is (dtm_not (dtm_at 5 Kn.Is K6 rfl v okT2 (by rw [List.length_append, List.length_take]; show _ + 2 ≤ 900; omega) (de_v 5) (de_v 0) (de_v 10))) rfl) rfl) (fun z => by cases z) fun _ => dssm_nil ?_))
  -- the end
  have t11 : (first.take 9 ++ [Ed.aim "a", Ed.aim "b"]).take (10 + 1) = first.take 9 ++ [Ed.aim "a", Ed.aim "b"] := List.take_of_length_le (by rw [List.length_append, List.length_take]; show _ + 2 ≤ _; omega)
  have g10 : (first.take 9 ++ [Ed.aim "a", Ed.aim "b"])[10]? = some (.aim "b") := by
    rw [List.getElem?_append_right (by rw [List.length_take]; omega), List.length_take, Nat.min_eq_left (by omega)]
    rfl
  have K6' : Ses CS CSc L6 y q3 l3 .non (msAt C pp op tn ps od ((first.take 9 ++ [Ed.aim "a", Ed.aim "b"]).take (10 + 1))) := by rw [t11]; exact K6
  have okP : (DV.tup [(Ed.aim "b").d, .non]).ok = true := pair_ok (ps := ps) (od := od) (e := .aim "b") wB (by rw [DV.plain, DV.dep]; decide)
  refine dssc_one (dsc_ret (d := .bl true) (dec_m (dem_and2 (dem_at 3 st6.kin Kn.Is J7 rfl v (okEds_take 6 okF) (by rw [List.length_take]; omega) (de_v 3) (de_v 0) (DE.is (de_slL (i := none) (j := some 6) (xs := first.map Ed.d) (de_v 1) dp_none (dp_some (DE.is (de_add (de_fdiv ⟨by decide, by decide⟩ (de_v 4) de_int) de_int) rfl))) (by rw [show (6 : Int) = ((6 : Nat) : Int) from rfl, cutG_to (by rw [List.length_map]; omega), List.map_take])))
    (DEM.is (dem_eqD okP okP (dem_undoE Kn K6' g10 (by rw [List.length_append, List.length_take]; show _ + 2 ≤ 900; omega) rfl rfl (de_v 5)) (de_tup (da_cons (de_tup (da_cons de_str (da_cons de_str da_nil))) (da_cons de_non da_nil)))) (by rw [eqv_self okP])) rfl)) ⟨rfl, _, rfl, le_tab (st6.put (ds' := msAt C pp op tn ps od ((first.take 9 ++ [Ed.aim "a", Ed.aim "b"]).take 10)) K6.sl).tab⟩)
end SP

/-! try: what raises nothing; _law_all_right, law. -/
namespace PD
open PySem PySem.Spec PyProof.Rows L2 LamX
section
variable {X : Cx} {n : Nat} {body : List Stmt} {hs : List ExceptHandler} {pos : Pos} {tb : TS}
theorem sn_try_quiet (hb : ∀ (pn : List (Addr × Obj)) (xe : Value → Shared → Prop), PassesOwn (model X.prog X.w) X.A X.env xe → SsN (X.tr pn xe) n body tb) (hh : hs ≠ []) : SN X n (.Try body hs [] [] pos) tb := by
  obtain ⟨h0, hr, rfl⟩ := List.exists_cons_of_ne_nil hh
  refine ⟨fun pins s σ H D ht I h => wpAny_Try_except ?_⟩
  refine wpAny_mono ((hb (X.pn ++ pins) _ PassesOwn.looking).run [] s σ H D ht (I.toTry _) h) (fun f s1 sp1 => ?_) fun e s1 he => he
  match f, sp1 with
  | .next, ⟨σ1, H1, J, q⟩ => exact wpAny_execs_nil ⟨σ1, H1, J.ofTry I.ok, q⟩
  | .brk, ⟨σ1, H1, J, q⟩ => exact ⟨σ1, H1, J.ofTry I.ok, q⟩
  | .cont, ⟨σ1, H1, J, q⟩ => exact ⟨σ1, H1, J.ofTry I.ok, q⟩
  | .ret u, ⟨v, σ1, H1, J, r, q⟩ => exact ⟨v, σ1, H1, J.ofTry I.ok, r, q⟩
end
section
variable {g : Gb} {n : Nat} {l : Lc} {c : Addr} {q : Str} {ρ : Rho} {m m1 m2 : Mo} {a b e : Expr} {body : List Stmt} {hs : List ExceptHandler} {pos : Pos} {E : Pm} {x y : Bool}
theorem OfC.tr {X : Cx} (w : OfC g l c q X) {pn : List (Addr × Obj)} {xe : Value → Shared → Prop} (po : PassesOwn (model X.prog X.w) X.A X.env xe) (hex : l.ex = none) : OfC g l c q (X.tr pn xe) :=
  ⟨⟨w.o.prog, w.o.w, w.o.K, w.o.mg, w.o.base, w.o.N, w.o.sc, w.o.fn, w.o.calm, w.o.room, w.o.un, fun _ => po, fun _ _ _ h => by rw [hex] at h; cases h⟩, w.code, w.qual⟩
theorem dsc_try (h : DSsC g n l c q body ρ m E) (hh : hs ≠ [] := by exact List.cons_ne_nil _ _) (hex : l.ex = none := by rfl) : DSC g n l c q (.Try body hs [] [] pos) ρ m E :=
  .by _ (fun X w => sn_try_quiet (fun pn xe po => USsC.sn (w.tr po hex) body) hh) h
end
end PD
namespace SP
open PySem PySem.Spec PyProof.Rows L2 PD LamX
variable {g : Gb} {C c : Addr} {T : List (Addr × Str)}
abbrev laN : List Str := ["_law_script", "_law_number_here", "_law_seed", "_law_file_here", "_law_edits_here"]
theorem scLAll : FnScope laN ["_law_script"] (defScope s__law_all_right) := ⟨rfl, rfl, rfl, by decide +kernel, rfl, by decide +kernel, by decide +kernel⟩
def R_lall : List DV → DV → Prop := fun ds d => ∃ (D : DV) (xs : List Int), Scr D xs ∧ xs.length ≤ 63 ∧ ds = [D] ∧ d = .bl true
theorem parts_len (s : Int) (n : Nat) : (partsOf s n).length = n := by unfold partsOf; rw [List.length_map, List.length_range]
theorem ok_lall9 (B : Bt g) (Nu : Fn g 1 "_law_number" R_num) (Lf : Fn g 6 "_law_file" (R_lfile C)) (Le : Fn g 5 "_law_edits" (R_leds C)) (On : FnT g 13 1 T "_law_one_right" (R_lone C)) {f : Addr} {fd : FuncData} (F : FunC g.K "_law_all_right" "_law_all_right" s__law_all_right c f fd) : FnOkN g.P g.w g.K g.mg g.base CX0 14 1 f fd ["_law_script"] (spT g.K T R_lall) := by
  refine fn_okT (q := "_law_all_right.<locals>.<lambda>") F (by decide +kernel) scLAll (fun ds d ⟨_, _, _, _, e, _⟩ => by rw [e]; rfl) fun ds d ⟨D, xs, hD, hx, e, ed⟩ => ?_
  subst e ed
  refine dssc_cons (dsc_for (is := [1]) (di_r (n := 3) B.range (by decide) de_int) (fun _ ρ m => m = tabM T ∧ ∃ x1 x2 x3 x4 : EV, ρ = [.val D, x1, x2, x3, x4]) ⟨rfl, _, _, _, _, rfl⟩ ?_ ?_)
  · rintro k d ρ m hd ⟨rfl, x1, x2, x3, x4, rfl⟩
    have hk : k < 3 := by
      have := (List.getElem?_eq_some_iff.mp hd).1
      rw [rangeD_len] at this
      exact this
    have ed : d = .int (k : Int) := by
      unfold rangeD at hd
      rw [List.getElem?_map, List.getElem?_range hk] at hd
      cases hd
      show DV.int _ = _
      rw [Int.zero_add]
    subst ed
    have nn := numOf_nn xs (5 + k)
    generalize hsd : numOf xs (5 + k) = sd at nn
    obtain ⟨j, hj, hj2⟩ : ∃ j : Nat, (sd / 1000) % 2 = (j : Int) ∧ j < 2 := ⟨((sd / 1000) % 2).toNat, by omega, by omega⟩
    refine ⟨_, dg_n 1 scLAll.nd, ?_⟩
    refine dssc_cons (dsc_pl (ds_set 2 scLAll.nd (d := .int sd) (de_call Nu (da_cons (de_v 0) (da_cons (de_add de_int (de_v 1)) da_nil)) ⟨D, xs, 5 + k, hD, hx, by omega, rfl, by rw [hsd]⟩) ?_))
    have vs := VS_file sd (n := 2 + j) (by omega) (by omega)
    have b1 : 1 ≤ fpp sd ∧ fpp sd ≤ 5 := by unfold fpp; omega
    have b2 : 1 ≤ fop sd ∧ fop sd ≤ 5 := by unfold fop; omega
    have v : VF "ab" (partsOf sd (2 + j)) (rowNat sd (2 + j)) (fpp sd) (fop sd) := ⟨vs, b1, b2⟩
    refine dssc_cons (dsc_pl (ds_set 3 scLAll.nd (d := fileOf C sd (2 + j)) (de_call Lf (da_cons (de_v 2) (da_cons (DE.is (de_add (i := 2) (j := sd / 1000 % 2) de_int (de_mod (by decide) (de_intOf B.int (de_fdiv ⟨by decide, by decide⟩ (de_v 2) de_int)) de_int)) (by rw [hj]; congr 1)) da_nil)) ⟨_, 2 + j, nn.1, by omega, by omega, rfl, rfl⟩) ?_))
    refine dssc_cons (dsc_pl (ds_set 4 scLAll.nd (d := .lst ((edsOf (ftn sd) (partsOf sd (2 + j), rowNat sd (2 + j), none) xs (40 + 40 * k) 15).map Ed.d)) (de_call Le (da_cons (de_v 0) (da_cons (DE.is (de_add de_int (de_mul (.inl (by decide)) de_int (de_v 1))) (by show DV.int ((40 : Int) + 40 * (k : Int)) = DV.int ((40 + 40 * k : Nat) : Int); congr 1)) (da_cons (de_v 3) (da_cons de_int da_nil)))) ⟨D, xs, 40 + 40 * k, 15, _, _, _, _, _, hD, hx, by omega, v, rfl, rfl⟩) ?_))
    have el := edsOf_len (tn := ftn sd) (s0 := (partsOf sd (2 + j), rowNat sd (2 + j), none)) (xs := xs) (idx := 40 + 40 * k) 15
    have eo := edsOf_ok (tn := ftn sd) (xs := xs) (idx := 40 + 40 * k) v 15
    generalize edsOf (ftn sd) (partsOf sd (2 + j), rowNat sd (2 + j), none) xs (40 + 40 * k) 15 = es at el eo ⊢
    refine dssc_one (dsc_if (x := false) (DTC.is (dtc_not (x := true) (dtc_e (dec_call On (da_cons (de_v 3) (da_cons (DE.is (de_slL (i := none) (j := some 10) (xs := es.map Ed.d) (de_v 4) dp_none (dp_some de_int)) (by rw [show (10 : Int) = ((10 : Nat) : Int) from rfl, cutG_to (by rw [List.length_map]; omega), ← List.map_take])) (da_cons (DE.is (de_slL (i := some 10) (j := none) (xs := es.map Ed.d) (de_v 4) (dp_some de_int) dp_none) (by rw [cut_10, ← List.map_drop])) da_nil)))
      ⟨_, _, _, _, _, es.take 10, es.drop 10, v, by rw [parts_len]; omega, by rw [List.take_append_drop]; exact eo, by rw [List.length_take]; omega, by rw [List.length_drop]; omega, rfl, rfl⟩))) rfl) (fun z => by cases z) fun _ => dssc_nil ⟨rfl, _, _, _, _, rfl⟩)
  · rintro ρ m ⟨rfl, x1, x2, x3, x4, rfl⟩
    exact dssc_one (dsc_ret (dec_of (.of de_bl)) ⟨rfl, rfl⟩)
theorem scLaw9 : FnScope ["_law_script"] ["_law_script"] (defScope s_law) := ⟨rfl, rfl, rfl, by decide +kernel, rfl, by decide +kernel, by decide +kernel⟩
def R_law9 : List DV → DV → Prop := fun ds d => ∃ xs : List Int, xs.length ≤ 63 ∧ ds = [.frz (xs.map DV.int)] ∧ d = .bl true
theorem ok_law9 (Al : FnT g 14 1 T "_law_all_right" R_lall) {f : Addr} {fd : FuncData} (F : FunC g.K "law" "law" s_law c f fd) : FnOkN g.P g.w g.K g.mg g.base CX0 15 1 f fd ["_law_script"] (spT g.K T R_law9) := by
  refine fn_okT (q := "law.<locals>.<lambda>") F (by decide +kernel) scLaw9 (fun ds d ⟨_, _, e, _⟩ => by rw [e]; rfl) fun ds d ⟨xs, hx, e, ed⟩ => ?_
  subst e ed
  exact dssc_one (dsc_try (dssc_one (dsc_ret (dec_call Al (da_cons (de_v 0) da_nil) ⟨_, xs, .inr rfl, hx, rfl, rfl⟩) ⟨rfl, rfl⟩)))
end SP

/-! Facts as the head tells them: defs, methods, classes; the script. -/
namespace SP
open PySem PySem.Spec PyProof.Rows L2 PD LamX PySem.W NdefX
def kw3 : List (Str × V) := [("piece_price", .int 1), ("order_price", .int 1), ("torn", .bl false)]
/-- a def as the top has written it -/
def DefAt (K : PySem.W.Frag) (x : Str) (st : Stmt) : Prop := ∃ f fd, PySem.W.nsIn K mainGlobals x = some (some (.ref f)) ∧ Fun K x x st f fd
theorem def_mk {K : PySem.W.Frag} {x : Str} {st : Stmt} {f : Addr} {oc : Value} {od an : Option Addr} {osl : Array (Option Value)} {kV doc pm cdv ct : Value} (a : PySem.W.nsIn K mainGlobals x = some (some (.ref f)))
    (l : K.lookup f = some ⟨oc, od, .func (PySem.W.fnOf x x (defArgs st) (defBody st) (defScope st) .none kV doc pm an cdv ct), osl⟩) (c : PySem.W.codeIn K cdv x = true) (k : PySem.W.keepIn K (.ref f) = true) : DefAt K x st := ⟨f, _, a, fun_mk l c k⟩
def MethAt (K : PySem.W.Frag) (C : Addr) (m qual : Str) (st : Stmt) : Prop := ∃ f fd, Meth K C m f ∧ Fun K m qual st f fd
theorem meth_mk {K : PySem.W.Frag} {C : Addr} {m qual : Str} {st : Stmt} {f : Addr} {oc : Value} {od an : Option Addr} {osl : Array (Option Value)} {kV doc pm cdv ct : Value} (a : PySem.W.findIn K (.ref C) m = some (some (.ref f))) (i : PySem.W.isFn K (.ref f) = true)
    (l : K.lookup f = some ⟨oc, od, .func (PySem.W.fnOf m qual (defArgs st) (defBody st) (defScope st) .none kV doc pm an cdv ct), osl⟩) (c : PySem.W.codeIn K cdv qual = true) (k : PySem.W.keepIn K (.ref f) = true) : MethAt K C m qual st := ⟨f, _, ⟨a, i, k⟩, fun_mk l c k⟩
def PropAt (K : PySem.W.Frag) (C : Addr) (m qual : Str) (st : Stmt) : Prop := ∃ p f fd, PropOf K C m p f ∧ Fun K m qual st f fd
theorem prop_mk {K : PySem.W.Frag} {C : Addr} {m qual : Str} {st : Stmt} {p f : Addr} {rest : List Value} {oc : Value} {od an : Option Addr} {osl : Array (Option Value)} {kV doc pm cdv ct : Value} (a : PySem.W.findIn K (.ref C) m = some (some (.ref p))) (e : PySem.W.specialIn K (.ref p) "__get__" = some (some (.builtin "property.__get__"))) (t : PySem.W.takesIn K (.ref p) = some true) (r : PySem.W.recIn K p "property" = some (.ref f :: rest))
    (l : K.lookup f = some ⟨oc, od, .func (PySem.W.fnOf m qual (defArgs st) (defBody st) (defScope st) .none kV doc pm an cdv ct), osl⟩) (c : PySem.W.codeIn K cdv qual = true) (k : PySem.W.keepIn K (.ref f) = true) : PropAt K C m qual st := ⟨p, f, _, ⟨a, e, t, ⟨rest, r⟩⟩, fun_mk l c k⟩
def InitAt (K : PySem.W.Frag) (C : Addr) (st : Stmt) : Prop := ∃ f fd, Mk K C f ∧ FunD K "__init__" "File.__init__" (defArgs st) (defBody st) (defScope st) [] kw3 f fd
theorem init_mk {K : PySem.W.Frag} {C D : Addr} {st : Stmt} {f : Addr} {oc : Value} {od an : Option Addr} {osl : Array (Option Value)} {doc pm cdv ct : Value} {t1 t2 : Tok} (m : PySem.W.makesIn K C = true) (a : PySem.W.findIn K (.ref C) "__init__" = some (some (.ref f))) (i : PySem.W.isFn K (.ref f) = true) (kc : PySem.W.keepIn K (.ref C) = true)
    (l : K.lookup f = some ⟨oc, od, .func (PySem.W.fnOf "__init__" "File.__init__" (defArgs st) (defBody st) (defScope st) .none (.ref D) doc pm an cdv ct), osl⟩) (c : PySem.W.codeIn K cdv "File.__init__" = true) (k : PySem.W.keepIn K (.ref f) = true) (n : PySem.W.nsIn K D "torn" = some (some (.bool false))) (n1 : PySem.W.nsIn K D "piece_price" = some (some (.int 1 t1))) (n2 : PySem.W.nsIn K D "order_price" = some (some (.int 1 t2))) : InitAt K C st :=
  ⟨f, _, ⟨m, a, i, kc⟩, ⟨⟨oc, od, .none, .ref D, doc, pm, an, cdv, ct, osl, rfl, l, c, .inl ⟨rfl, rfl⟩, .inr ⟨D, rfl, fun q hq => by
    simp only [kw3, List.mem_cons, List.not_mem_nil, or_false] at hq
    rcases hq with rfl | rfl | rfl
    · exact ⟨_, n1, ⟨_, rfl⟩⟩
    · exact ⟨_, n2, ⟨_, rfl⟩⟩
    · exact ⟨_, n, rfl⟩⟩⟩, k⟩⟩
theorem letters_mk {K : PySem.W.Frag} {T : Addr} {d : Option Addr} {u1 u2 : Tok} {n : Nat} {sl : Array (Option Value)} (l : K.lookup T = some ⟨.type "tuple", d, .seq #[.str "ab" u1, .str "abc" u2] n, sl⟩) (S : Hp) : Rp K S (.ref T) (.tup [.str "ab", .str "abc"]) :=
  .tup (xs := [.str "ab", .str "abc"]) (.inr ⟨_, _, _, l, rfl, rfl, (by show 2 ≤ sizeLine; decide), .cons ⟨_, rfl⟩ (.cons ⟨_, rfl⟩ .nil)⟩) (.cons (.str _) (.cons (.str _) .nil))
def InitAt0 (K : PySem.W.Frag) (C : Addr) (q : Str) (st : Stmt) : Prop := ∃ f fd, Mk K C f ∧ Fun K "__init__" q st f fd
theorem init_mk0 {K : PySem.W.Frag} {C : Addr} {q : Str} {st : Stmt} {f : Addr} {oc : Value} {od an : Option Addr} {osl : Array (Option Value)} {kV doc pm cdv ct : Value} (m : PySem.W.makesIn K C = true) (a : PySem.W.findIn K (.ref C) "__init__" = some (some (.ref f))) (i : PySem.W.isFn K (.ref f) = true) (kc : PySem.W.keepIn K (.ref C) = true)
    (l : K.lookup f = some ⟨oc, od, .func (PySem.W.fnOf "__init__" q (defArgs st) (defBody st) (defScope st) .none kV doc pm an cdv ct), osl⟩) (c : PySem.W.codeIn K cdv q = true) (k : PySem.W.keepIn K (.ref f) = true) : InitAt0 K C q st := ⟨f, _, ⟨m, a, i, kc⟩, fun_mk l c k⟩
/-- an own class without __init__ -/
structure XcK (K : PySem.W.Frag) (C : Addr) : Prop where
  kp : PySem.W.keepIn K (.ref C) = true
  sub : PySem.W.subIn K (.ref C) (.type "BaseException") = some true
  ty : PySem.W.typeIn K (.ref C) = some (.type "type")
  ex : PySem.W.excIn K C [.type "ValueError", .type "Exception", .type "BaseException", .type "object"] "ValueError.__new__" = true
theorem XcK.xc {g : Gb} {C : Addr} {x : Str} (h : XcK g.K C) (m : g.mg x = some (.ref C)) : Xc g C x := ⟨m, h.kp, h.sub, h.ty, _, _, _, _, PySem.F.excBase_ValueError, h.ex⟩
/-- a def at the top whose code object is at c -/
def MakerAt (K : PySem.W.Frag) (x : Str) (st : Stmt) (c : Addr) : Prop := ∃ f fd, PySem.W.nsIn K mainGlobals x = some (some (.ref f)) ∧ FunC K x x st c f fd ∧ PySem.W.keepIn K (.ref f) = true
theorem fun_of {K : PySem.W.Frag} {x q : Str} {st : Stmt} {c f : Addr} {fd : FuncData} (F : FunC K x q st c f fd) (k : PySem.W.keepIn K (.ref f) = true) : Fun K x q st f fd := by
  obtain ⟨oc, od, kV, doc, pm, an, ct, osl, h1, h2, h3⟩ := F.ex
  exact ⟨⟨oc, od, kV, doc, pm, an, .ref c, ct, osl, h1, h2, h3⟩, k⟩
/-- the script as the law takes it, the table beside -/
theorem at_script9 {K : PySem.W.Frag} {c1 P1 : Addr} {q1 : Str} (H : Hp) (a : Addr) (ns : List Int) (hl : ns.length ≤ 63) (hT : ∀ p ∈ [(c1, P1)], H p.2 = some (.tbl #[])) (ha : a ∉ ([(c1, P1)] : List (Addr × Addr)).map (·.2)) (hS : SqL K H a (ns.map V.int)) :
    spT K [(P1, q1)] R_law9 [.ref a] H (fun v _ => v = .bl true) fun _ _ _ => False := by
  have go : ∀ (S : Hp) (ns : List Int), RpA K S (ns.map V.int) (ns.map DV.int) := by
    intro S ns
    induction ns with
    | nil => exact .nil
    | cons n ns ih => exact .cons (.int n) ih
  have t1 := hT (c1, P1) (by simp)
  let S : Hp := fun b => if b ∈ [P1] then none else H b
  have sin : ∀ b, b ∈ [P1] → S b = none := fun b h => if_pos h
  have sout : ∀ b, b ∉ [P1] → S b = H b := fun b h => if_neg h
  have ea : S a = H a := sout a ha
  have hS' : SqL K S a (ns.map V.int) := by
    rcases hS with h | h
    · refine .inl ?_
      unfold Rd at h ⊢
      rw [ea]
      exact h
    · exact .inr h
  refine ⟨S, tabM [(P1, q1)], [.frz (ns.map DV.int)], _, fun b u z => ?_, fun b z => ?_, fun p hp => ?_, .cons (.frz hS' (go S ns)) .nil, ⟨rfl, .bl true, ⟨ns, by omega, rfl, rfl⟩, rfl⟩, fun d m' v S' H' z _ r => ?_⟩
  · by_cases h : b ∈ [P1]
    · rw [sin b h] at z; cases z
    · rw [sout b h] at z; exact z
  · have z' : b ∈ [P1] := z
    refine ⟨sin b z', ?_⟩
    simp only [List.mem_cons, List.not_mem_nil, or_false] at z'
    rw [z', t1]
    exact fun y => by cases y
  · have tt : H p.1 = some (.tbl #[]) := by
      simp only [List.mem_cons, List.not_mem_nil, or_false] at hp
      rcases hp with rfl
      exact t1
    exact ⟨#[], tt, True.intro, fun pos cv h => by cases h⟩
  · obtain ⟨rfl, _⟩ := z
    cases r
    rfl
end SP

/-! What the top has left, asked by one run: questions to a part of the heap, told by one equation. -/
namespace HF
open PySem PySem.Spec PyProof.Rows L2 PD LamX PySem.W PySem.W.X
theorem isRef_ok {v : Option (Option Value)} (h : isRef v = true) : v = some (some (.ref (refO v))) := by
  unfold isRef at h
  split at h
  · rfl
  · cases h
theorem isRefV_ok {v : Value} (h : isRefV v = true) : v = .ref (refA v) := by
  unfold isRefV at h
  split at h
  · rfl
  · cases h
theorem isInt_ok {i : Int} {v : Option (Option Value)} (h : isInt i v = true) : v = some (some (.int i (tokO v))) := by
  unfold isInt at h
  split at h
  · rw [of_decide_eq_true h]; rfl
  · cases h
def Told (K : Frag) (l : List Ask) : Prop := l.map (Ask.obs K) = l.map Ask.val
def Tolds (K : Frag) (l : List (List Ask)) : Prop := l.map (List.map (Ask.obs K)) = l.map (List.map Ask.val)
section
variable {K : Frag} {l : List Ask}
theorem Tolds.at {gs : List (List Ask)} (e : Tolds K gs) (i : Nat) (h : gs[i]? = some l) : Told K l := by
  have q := congrArg (fun z : List (List Ans) => z[i]?) e
  rw [List.getElem?_map, List.getElem?_map, h] at q
  exact Option.some.inj q
theorem Told.at (e : Told K l) (i : Nat) {a : Ask} (h : l[i]? = some a) : a.obs K = a.val := by
  have q := congrArg (fun z : List Ans => z[i]?) e
  rw [List.getElem?_map, List.getElem?_map, h] at q
  exact Option.some.inj q
theorem Told.b (e : Told K l) (i : Nat) {f : Frag → Bool} (h : l[i]? = some (.b f)) : f K = true := Ans.b.inj (e.at i h)
theorem Told.v (e : Told K l) (i : Nat) {f : Frag → Option (Option Value)} {r : Option (Option Value)} (h : l[i]? = some (.v f r)) : f K = r := Ans.v.inj (e.at i h)
theorem Told.o (e : Told K l) (i : Nat) {f : Frag → Option Bool} {r : Option Bool} (h : l[i]? = some (.o f r)) : f K = r := Ans.o.inj (e.at i h)
theorem Told.d (e : Told K l) (i : Nat) {at_ : Frag → Addr} {name qual : Str} {st : Stmt} {cs : List Str} (h : l[i]? = some (.d at_ name qual st cs)) :
    ∃ oc od osl doc pm an ct, (K.lookup (at_ K) = some ⟨oc, od, .func (fnX name qual (defArgs st) (defBody st) (defScope st) (clOf K (at_ K)) .none (kwOf K (at_ K)) doc pm an (cdOf K (at_ K)) ct), osl⟩ ∧ (clOf K (at_ K)).map (·.1) = cs) ∧
      codeIn K (cdOf K (at_ K)) qual = true ∧ keepIn K (.ref (at_ K)) = true := by
  obtain ⟨h1, h2, h3⟩ := Ans.d.inj (e.at i h)
  cases q : K.lookup (at_ K) with
  | none =>
    rw [show fdAt K (at_ K) = none by unfold fdAt; rw [q]] at h1
    cases h1
  | some o =>
    obtain ⟨oc, od, dt, osl⟩ := o
    cases dt with
    | func fd =>
      have ef : fdAt K (at_ K) = some fd := by unfold fdAt; rw [q]
      have e1 : clOf K (at_ K) = fd.closure := by unfold clOf; rw [ef]
      have e2 : kwOf K (at_ K) = fd.kwdefaults := by unfold kwOf; rw [ef]
      have e3 : cdOf K (at_ K) = fd.code := by unfold cdOf; rw [ef]
      rw [ef] at h1
      rw [e1, e2]
      rw [e3] at h2 ⊢
      obtain ⟨n1, n2, n3, n4, n5, n6, n7, n8, n9, n10, n11, n12, n13, n14, n15⟩ := fd
      have e2 : (some (n1, n2, n3, n4, n5, n6, n7.map (·.1), n8, n15) : FV) = some (name, qual, defArgs st, .stmts (defBody st), defScope st, mainGlobals, cs, .none, builtinsNs) := h1
      simp only [Option.some.injEq, Prod.mk.injEq] at e2
      obtain ⟨h1, h2', h3', h4, h5, h6, h7, h8, h9⟩ := e2
      subst h1 h2' h3' h4 h5 h6 h8 h9
      exact ⟨oc, od, osl, n10, n11, n12, n14, ⟨rfl, h7⟩, h2, h3⟩
    | _ =>
      rw [show fdAt K (at_ K) = none by unfold fdAt; rw [q]] at h1
      cases h1
/-- a def without a closure -/
theorem Told.d0 (e : Told K l) (i : Nat) {at_ : Frag → Addr} {name qual : Str} {st : Stmt} (h : l[i]? = some (.d at_ name qual st [])) :
    ∃ oc od osl doc pm an ct, K.lookup (at_ K) = some ⟨oc, od, .func (fnOf name qual (defArgs st) (defBody st) (defScope st) .none (kwOf K (at_ K)) doc pm an (cdOf K (at_ K)) ct), osl⟩ ∧
      codeIn K (cdOf K (at_ K)) qual = true ∧ keepIn K (.ref (at_ K)) = true := by
  obtain ⟨oc, od, osl, doc, pm, an, ct, ⟨h1, h2⟩, h3, h4⟩ := e.d i h
  rw [List.map_eq_nil_iff] at h2
  rw [h2] at h1
  exact ⟨oc, od, osl, doc, pm, an, ct, h1, h3, h4⟩
end
/-! ### the questions -/
section
variable {K : Frag}
theorem ref_of {x : Str} (e : Told K (aRef x)) : nsIn K mainGlobals x = some (some (.ref (ga K x))) := isRef_ok (e.b 0 rfl)
theorem int_of {x : Str} {i : Int} (e : Told K (aInt x i)) : nsIn K mainGlobals x = some (some (.int i (tokO (nsIn K mainGlobals x)))) := isInt_ok (e.b 0 rfl)
theorem none_of {x : Str} (e : Told K (aNone x)) : nsIn K mainGlobals x = some none := e.v 0 rfl
theorem b_of {f : Frag → Bool} (e : Told K (aB f)) : f K = true := e.b 0 rfl
theorem v_of {f : Frag → Option (Option Value)} {r : Option (Option Value)} (e : Told K (aV f r)) : f K = r := e.v 0 rfl
theorem o_of {f : Frag → Option Bool} {r : Option Bool} (e : Told K (aO f r)) : f K = r := e.o 0 rfl
theorem def_of {x : Str} {st : Stmt} (e : Told K (aDef x st)) : SP.DefAt K x st := by
  obtain ⟨_, _, _, _, _, _, _, l, c, k⟩ := e.d0 1 rfl
  exact SP.def_mk (isRef_ok (e.b 0 rfl)) l c k
theorem meth_of {C m qual : Str} {st : Stmt} (e : Told K (aMeth C m qual st)) : SP.MethAt K (ga K C) m qual st := by
  obtain ⟨_, _, _, _, _, _, _, l, c, k⟩ := e.d0 2 rfl
  exact SP.meth_mk (isRef_ok (e.b 0 rfl)) (e.b 1 rfl) l c k
theorem isRec_ok {K : Frag} {p : Addr} (h : isRec (recIn K p "property") = true) : ∃ rest, recIn K p "property" = some (.ref (gp K p) :: rest) := by
  unfold gp
  generalize recIn K p "property" = v at h
  unfold isRec at h
  split at h
  · exact ⟨_, rfl⟩
  · cases h
theorem prop_of {C m qual : Str} {st : Stmt} (e : Told K (aProp C m qual st)) : SP.PropAt K (ga K C) m qual st := by
  obtain ⟨_, _, _, _, _, _, _, l, c, k⟩ := e.d0 4 rfl
  obtain ⟨rest, r⟩ := isRec_ok (e.b 3 rfl)
  exact SP.prop_mk (isRef_ok (e.b 0 rfl)) (e.v 1 rfl) (e.o 2 rfl) r l c k
theorem init_of0 {C q : Str} {st : Stmt} (e : Told K (aInit C q st)) : SP.InitAt0 K (ga K C) q st := by
  obtain ⟨_, _, _, _, _, _, _, l, c, k⟩ := e.d0 4 rfl
  exact SP.init_mk0 (e.b 0 rfl) (isRef_ok (e.b 1 rfl)) (e.b 2 rfl) (e.b 3 rfl) l c k
theorem init_ofF {C : Str} {st : Stmt} (e : Told K (aInitF C st)) : SP.InitAt K (ga K C) st := by
  obtain ⟨_, _, _, _, _, _, _, l, c, k⟩ := e.d0 4 rfl
  rw [isRefV_ok (e.b 5 rfl)] at l
  exact SP.init_mk (e.b 0 rfl) (isRef_ok (e.b 1 rfl)) (e.b 2 rfl) (e.b 3 rfl) l c k (e.v 6 rfl) (isInt_ok (e.b 7 rfl)) (isInt_ok (e.b 8 rfl))
theorem maker_of {x : Str} {st : Stmt} (e : Told K (aMaker x st)) : SP.MakerAt K x st (cdA K x) := by
  obtain ⟨oc, od, osl, doc, pm, an, ct, l, c, k⟩ := e.d0 1 rfl
  rw [isRefV_ok (e.b 2 rfl)] at l c
  exact ⟨_, _, isRef_ok (e.b 0 rfl), ⟨⟨oc, od, _, doc, pm, an, ct, osl, rfl, l, c⟩⟩, k⟩
theorem tup2_ok {T : Addr} {x y : Str} (h : tup2 K T x y = true) : ∃ d u1 u2 n sl, K.lookup T = some ⟨.type "tuple", d, .seq #[.str x u1, .str y u2] n, sl⟩ := by
  unfold tup2 at h
  split at h
  · rename_i c d us n sl e
    obtain ⟨h1, h2⟩ := Bool.and_eq_true_iff.mp h
    split at h2
    · rename_i a t b t2 eu
      obtain ⟨h3, h4⟩ := Bool.and_eq_true_iff.mp h2
      rw [of_decide_eq_true h3, of_decide_eq_true h4] at eu
      rw [beq_iff_eq.mp h1] at e
      have eu2 : us = #[.str x t, .str y t2] := by
        rw [← Array.toList_inj]; exact eu
      rw [eu2] at e
      exact ⟨_, _, _, _, _, e⟩
    · cases h2
  · cases h
theorem xc_of {C : Str} (e : Told K (aXc C)) : SP.XcK K (ga K C) := ⟨e.b 0 rfl, e.o 1 rfl, beq_iff_eq.mp (e.b 2 rfl), e.b 3 rfl⟩
end
/-! ### what is looked at -/
theorem obT_eq (ts : List Addr) (n m : Nat) (gs : List (List Ask)) (s : SharedT) : obT ts n m gs s = obS ts n m gs s.abs := by
  unfold obT obS
  rw [show HandSHeadRun.getT s = s.abs.heap.get? from funext (HandSHeadRun.getT_eq s)]
  rfl
theorem le_toks {R : WRecords} {w : World} {s₀ s₁ : Shared} {ns : List Int} {a : Addr} {as : List Addr} {m : Nat} (L : Laid R w s₀ s₁ [ofPy (PyData.list (ns.map PyData.int))] [.ref a] as) (h : m ≤ s₀.toks) : m ≤ s₁.toks := Nat.le_trans h (script_toks L rfl)
theorem walk_any {l : PySem.W.OpenLaw} {n k m sz : Nat} {q : Program} {loose : List Str} {XP : (Str → Option Value) → Heap → Prop} {d : DefRec} {ts : List Addr} {gs : List (List Ask)} {x : Str} (hn : l.most = some n) (hn2 : n ≤ sizeLine) (hdf : d.params.defaults = []) (hr : Room k callerA)
    (F : ∀ (w : World) (mg : Str → Option Value) (fa : Addr) (h : Heap) (K : Frag), K.In h → h.Ns mainGlobals mg → mg d.name = some (.ref fa) → Tolds K gs → (∀ P ∈ ts, K.lookup P = none) → ∃ (fd : FuncData) (cs : List (Addr × Addr)) (sp : Sp), (∀ p ∈ cs, p.2 ∈ ts) ∧ (∀ p ∈ cs, PySem.W.codeHdIn K p.1 p.2 = true) ∧
      (∀ (s : Shared) (u : Value), BindsTo s fd ⟨[u], []⟩ [(x, u)]) ∧ (∀ (H : Hp) (a : Addr) (ns : List Int), ns.length ≤ n → (∀ p ∈ cs, H p.2 = some (.tbl #[])) → a ∉ cs.map (·.2) → SqL K H a (ns.map V.int) → sp [.ref a] H (fun v _ => v = .bl true) fun _ _ _ => False) ∧
      ∀ base : Heap, K.In base → base.Ns mainGlobals mg → (∀ p ∈ cs, TabB base mg p.1 p.2) → FnOkN l.prog w K mg base CX0 k m fa fd [x] sp) : WalkX q loose XP (obS ts sz m gs) (fun _ => valG ts gs) l.row.toRowW d [] (fun f vs => PySem.call f vs) := by
  intro w s₀ s₁ mg mb G y fa o pm cd doc dV kV ho hd hcd hD hmg hg args vals as' L hpre hlay hrd hwl hlo
  obtain rfl : dV = .none := Dflts.none hD hdf
  obtain rfl : kV = .none := Dflts.noKw hD
  obtain ⟨a, vs, ns, rfl, rfl, hobj, hints, hlen⟩ := Att.script_of hn hpre hwl
  have y1 : Tolds (wholeK ts sz s₀.heap.get?) gs := congrArg (fun z : List (List Ans) × Bool × List (Option Obj) => z.1) y
  have y2 : m ≤ s₀.toks := Nat.le_of_ble_eq_true (congrArg (fun z : List (List Ans) × Bool × List (Option Obj) => z.2.1) y)
  have y3 : ts.map s₀.heap.get? = ts.map fun _ => some noObj := congrArg (fun z : List (List Ans) × Bool × List (Option Obj) => z.2.2) y
  have KX : (wholeK ts sz s₀.heap.get?).In s₁.heap := Frag.In.keeps wholeK_in L.keeps
  obtain ⟨fd, cs, sp, h1, h3, hb, hsp, hF⟩ := F w mg fa _ _ KX G.T.g hmg y1 fun P hp => wholeK_no hp
  have hT : ∀ p ∈ cs, s₁.heap.get? p.2 = some noObj := fun p hp => by
    have e : ∀ P ∈ ts, s₀.heap.get? P = some noObj := fun P hP => List.map_inj_left.mp y3 P hP
    exact L.keeps _ _ (e p.2 (h1 p hp))
  refine enter_call (codeAny_mono (law_callTN KX G.T.g G.T.b G.T.builtins G.T.nolimit hg hT (fun p hp => wholeK_no (h1 p hp)) h3 G.T.bmain hobj hints (Nat.le_trans hlen hn2) hr (le_toks (ns := ns) (by rw [ofPy_ints]; exact L) y2) hF hb fun H z1 z2 z3 => hsp H a ns hlen z1 z2 z3) fun r s' hq => ?_)
  obtain ⟨rfl, g2, g3, g4⟩ := hq
  exact ⟨.inl ⟨.bool true, .bool true, [], rfl, fun _ => rfl, .bool true, Att.post_true l _, fun _ => ⟨List.Pairwise.nil, fun _ hm => (nomatch hm)⟩⟩, g2, g3, g4⟩
end HF

/-! law_k34: all together, over the facts. -/
namespace SP
open PySem PySem.Spec PyProof.Rows L2 PD LamX PySem.W
abbrev qLO : Str := "_law_one_right.<locals>.<lambda>"
theorem fin9 {P : Program} {w : World} {K : PySem.W.Frag} {h : Heap} {mg : Str → Option Value} {fa C T CS CSc CT CE CN c1 c2 cL P1 : Addr} {t_PIECE_LETTERS t_ORDER_BLOCKS t_TEXT_LETTERS t_MOST_BLOCKS t_MOST_PRICE t_MOST_TRIED u1 u2 : Tok} {dT : Option Addr} {nT : Nat} {slT : Array (Option Value)} (X : K.In h) (G : h.Ns mainGlobals mg) (hfa : mg "law" = some (.ref fa))
    (aC : PySem.W.nsIn K mainGlobals "File" = some (some (.ref C)))
    (b_isinstance : PySem.W.nsIn K mainGlobals "isinstance" = some none)
    (b_int : PySem.W.nsIn K mainGlobals "int" = some none)
    (b_bool : PySem.W.nsIn K mainGlobals "bool" = some none)
    (b_str : PySem.W.nsIn K mainGlobals "str" = some none)
    (b_tuple : PySem.W.nsIn K mainGlobals "tuple" = some none)
    (b_list : PySem.W.nsIn K mainGlobals "list" = some none)
    (b_len : PySem.W.nsIn K mainGlobals "len" = some none)
    (b_all : PySem.W.nsIn K mainGlobals "all" = some none)
    (b_range : PySem.W.nsIn K mainGlobals "range" = some none)
    (b_enumerate : PySem.W.nsIn K mainGlobals "enumerate" = some none)
    (b_sum : PySem.W.nsIn K mainGlobals "sum" = some none)
    (b_zip : PySem.W.nsIn K mainGlobals "zip" = some none)
    (c_PIECE_LETTERS : PySem.W.nsIn K mainGlobals "PIECE_LETTERS" = some (some (.int 2 t_PIECE_LETTERS)))
    (c_ORDER_BLOCKS : PySem.W.nsIn K mainGlobals "ORDER_BLOCKS" = some (some (.int 3 t_ORDER_BLOCKS)))
    (c_TEXT_LETTERS : PySem.W.nsIn K mainGlobals "TEXT_LETTERS" = some (some (.int 6 t_TEXT_LETTERS)))
    (c_MOST_BLOCKS : PySem.W.nsIn K mainGlobals "MOST_BLOCKS" = some (some (.int 4 t_MOST_BLOCKS)))
    (c_MOST_PRICE : PySem.W.nsIn K mainGlobals "MOST_PRICE" = some (some (.int 5 t_MOST_PRICE)))
    (c_MOST_TRIED : PySem.W.nsIn K mainGlobals "MOST_TRIED" = some (some (.int 20 t_MOST_TRIED)))
    (c_SETS : PySem.W.nsIn K mainGlobals "LETTER_SETS" = some (some (.ref T)))
    (r_SETS : K.lookup T = some ⟨.type "tuple", dT, .seq #[.str "ab" u1, .str "abc" u2] nT, slT⟩)
    (pg : PySem.W.plainGet K C Str.empty = true)
    (hd : PySem.W.hasDictIn K C = true)
    (po : PySem.W.plainOver K C = true)
    (sa : PySem.W.findIn K (.ref C) "__setattr__" = some (some (.builtin "object.__setattr__")))
    (kc : PySem.W.findIn K (.ref C) "__class__" = some (some (.builtin "object.__class__")))
    (kg : PySem.W.specialIn K (.builtin "object.__class__") "__get__" = some (some (.builtin "getset_descriptor.__get__")))
    (kt : PySem.W.takesIn K (.builtin "object.__class__") = some true)
    (km : PySem.W.mroIn K C (.type "object") = some true)
    (no_letters : PySem.W.findIn K (.ref C) "_letters" = some none)
    (no_pieces : PySem.W.findIn K (.ref C) "_pieces" = some none)
    (no_order : PySem.W.findIn K (.ref C) "_order" = some none)
    (no_piece_price : PySem.W.findIn K (.ref C) "_piece_price" = some none)
    (no_order_price : PySem.W.findIn K (.ref C) "_order_price" = some none)
    (no_torn : PySem.W.findIn K (.ref C) "_torn" = some none)
    (p_letters : PropAt K C "letters" "File.letters" (inClass sFile 1))
    (p_pieces : PropAt K C "pieces" "File.pieces" (inClass sFile 2))
    (p_order : PropAt K C "order" "File.order" (inClass sFile 3))
    (p_piece_price : PropAt K C "piece_price" "File.piece_price" (inClass sFile 4))
    (p_order_price : PropAt K C "order_price" "File.order_price" (inClass sFile 5))
    (p_torn : PropAt K C "torn" "File.torn" (inClass sFile 6))
    (p_text : PropAt K C "text" "File.text" sFText)
    (m_init : InitAt K C sFInit)
    (d_is_number : DefAt K "is_number" sNumber)
    (d_is_word : DefAt K "is_word" sWord)
    (d_is_piece : DefAt K "is_piece" sPiece)
    (d_is_text : DefAt K "is_text" sText)
    (d_is_block : DefAt K "is_block" sBlock)
    (d_is_order : DefAt K "is_order" sOrder)
    (d_is_state_write : DefAt K "is_state_write" sSWrite)
    (d_state_text : DefAt K "state_text" sSText)
    (d_old_content : DefAt K "old_content" sOld)
    (d_put_content : DefAt K "put_content" sPut)
    (d_state_after : DefAt K "state_after" sSAfter)
    (d_torn_contents : DefAt K "torn_contents" sTornC)
    (d_torn_states : DefAt K "torn_states" sTorn)
    (d_state_readings : DefAt K "state_readings" sReadings)
    (d_is_safe_write : DefAt K "is_safe_write" sIsSafe)
    (d_is_letters : DefAt K "is_letters" sIsLetters)
    (d_are_pieces : DefAt K "are_pieces" sArePieces)
    (d_is_price : DefAt K "is_price" sIsPrice)
    (d_check_file : DefAt K "check_file" sCheckFile)
    (d_check_goal : DefAt K "check_goal" sCheckGoal)
    (d_file_state : DefAt K "file_state" sFileState)
    (d_file_at : DefAt K "file_at" sFileAt)
    (d_is_write : DefAt K "is_write" sIsWrite)
    (d_check_write : DefAt K "check_write" sCheckWrite)
    (d_after : DefAt K "after" sAfter)
    (d_is_safe : DefAt K "is_safe" sSafe)
    (d_is_edit : DefAt K "is_edit" s_is_edit)
    (d_check_edit : DefAt K "check_edit" s_check_edit)
    (d_edited : DefAt K "edited" s_edited)
    (d__law_number : DefAt K "_law_number" s__law_number)
    (d__law_file : DefAt K "_law_file" s__law_file)
    (d__law_text : DefAt K "_law_text" s__law_text)
    (d__law_after : DefAt K "_law_after" s__law_after)
    (d__law_left : DefAt K "_law_left" s__law_left)
    (d__law_writes : DefAt K "_law_writes" s__law_writes)
    (d__law_moves : DefAt K "_law_moves" s__law_moves)
    (d__law_state : DefAt K "_law_state" s__law_state)
    (d__law_edit : DefAt K "_law_edit" s__law_edit)
    (d__law_done : DefAt K "_law_done" s__law_done)
    (d__law_edits : DefAt K "_law_edits" s__law_edits)
    (d__law_is_at : DefAt K "_law_is_at" s__law_is_at)
    (d__law_word : DefAt K "_law_word" s__law_word)
    (aCS : PySem.W.nsIn K mainGlobals "Session" = some (some (.ref CS)))
    (aCSc : PySem.W.nsIn K mainGlobals "Scope" = some (some (.ref CSc)))
    (aCT : PySem.W.nsIn K mainGlobals "Trial" = some (some (.ref CT)))
    (aCE : PySem.W.nsIn K mainGlobals "BadEdit" = some (some (.ref CE)))
    (aCN : PySem.W.nsIn K mainGlobals "NothingDone" = some (some (.ref CN)))
    (CS_pg : PySem.W.plainGet K CS Str.empty = true)
    (CS_hd : PySem.W.hasDictIn K CS = true)
    (CS_po : PySem.W.plainOver K CS = true)
    (CS_sa : PySem.W.findIn K (.ref CS) "__setattr__" = some (some (.builtin "object.__setattr__")))
    (CSc_pg : PySem.W.plainGet K CSc Str.empty = true)
    (CSc_hd : PySem.W.hasDictIn K CSc = true)
    (CSc_po : PySem.W.plainOver K CSc = true)
    (CSc_sa : PySem.W.findIn K (.ref CSc) "__setattr__" = some (some (.builtin "object.__setattr__")))
    (CT_pg : PySem.W.plainGet K CT Str.empty = true)
    (CT_hd : PySem.W.hasDictIn K CT = true)
    (CT_po : PySem.W.plainOver K CT = true)
    (CT_sa : PySem.W.findIn K (.ref CT) "__setattr__" = some (some (.builtin "object.__setattr__")))
    (no_scope : PySem.W.findIn K (.ref CS) "_scope" = some none)
    (no_moments : PySem.W.findIn K (.ref CSc) "moments" = some none)
    (no_outer : PySem.W.findIn K (.ref CSc) "outer" = some none)
    (no_session : PySem.W.findIn K (.ref CT) "session" = some none)
    (sp_current : PropAt K CS "current" "Session.current" s_Session_current)
    (sp_aim : PropAt K CS "aim" "Session.aim" s_Session_aim)
    (sp_journal : PropAt K CS "journal" "Session.journal" s_Session_journal)
    (sm_len : MethAt K CS "__len__" "Session.__len__" s_Session_len)
    (sm_edit : MethAt K CS "edit" "Session.edit" s_Session_edit)
    (sm_undo : MethAt K CS "undo" "Session.undo" s_Session_undo)
    (sm_branch : MethAt K CS "branch" "Session.branch" s_Session_branch)
    (sm_trial : MethAt K CS "trial" "Session.trial" s_Session_trial)
    (sm_tried : MethAt K CS "tried" "Session.tried" s_Session_tried)
    (sm_init : InitAt0 K CS "Session.__init__" s_Session_init)
    (cm_init : InitAt0 K CSc "Scope.__init__" s_Scope_init)
    (cm_fixed : MethAt K CSc "fixed" "Scope.fixed" s_Scope_fixed)
    (tm_init : InitAt0 K CT "Trial.__init__" s_Trial_init)
    (tm_enter : MethAt K CT "__enter__" "Trial.__enter__" s_Trial_enter)
    (tm_exit : MethAt K CT "__exit__" "Trial.__exit__" s_Trial_exit)
    (xcCE : XcK K CE)
    (xcCN : XcK K CN)
    (xnn : PySem.W.exmOne K (.ref CN) (.ref CN) = some true)
    (xen : PySem.W.exmOne K (.ref CE) (.ref CN) = some false)
    (xee : PySem.W.exmOne K (.ref CE) (.ref CE) = some true)
    (nC : (!([CS, CSc, CT] : List Nat).contains C) = true)
    (mk1 : MakerAt K "_law_one_right" s__law_one_right c1)
    (mk2 : MakerAt K "_law_all_right" s__law_all_right c2)
    (mkl : MakerAt K "law" s_law cL)
    : ∃ fd : FuncData, (∀ (s : Shared) (v : Value), BindsTo s fd ⟨[v], []⟩ [("_law_script", v)]) ∧ ∀ base : Heap, K.In base → base.Ns mainGlobals mg → (∀ p ∈ [(c1, P1)], TabB base mg p.1 p.2) → FnOkN P w K mg base CX0 15 1 fa fd ["_law_script"] (spT K [(P1, qLO)] R_law9) := by
  obtain ⟨_, _, a_is_number, F_is_number⟩ := d_is_number
  obtain ⟨_, _, a_is_word, F_is_word⟩ := d_is_word
  obtain ⟨_, _, a_is_piece, F_is_piece⟩ := d_is_piece
  obtain ⟨_, _, a_is_text, F_is_text⟩ := d_is_text
  obtain ⟨_, _, a_is_block, F_is_block⟩ := d_is_block
  obtain ⟨_, _, a_is_order, F_is_order⟩ := d_is_order
  obtain ⟨_, _, a_is_state_write, F_is_state_write⟩ := d_is_state_write
  obtain ⟨_, _, a_state_text, F_state_text⟩ := d_state_text
  obtain ⟨_, _, a_old_content, F_old_content⟩ := d_old_content
  obtain ⟨_, _, a_put_content, F_put_content⟩ := d_put_content
  obtain ⟨_, _, a_state_after, F_state_after⟩ := d_state_after
  obtain ⟨_, _, a_torn_contents, F_torn_contents⟩ := d_torn_contents
  obtain ⟨_, _, a_torn_states, F_torn_states⟩ := d_torn_states
  obtain ⟨_, _, a_state_readings, F_state_readings⟩ := d_state_readings
  obtain ⟨_, _, a_is_safe_write, F_is_safe_write⟩ := d_is_safe_write
  obtain ⟨_, _, a_is_letters, F_is_letters⟩ := d_is_letters
  obtain ⟨_, _, a_are_pieces, F_are_pieces⟩ := d_are_pieces
  obtain ⟨_, _, a_is_price, F_is_price⟩ := d_is_price
  obtain ⟨_, _, a_check_file, F_check_file⟩ := d_check_file
  obtain ⟨_, _, a_check_goal, F_check_goal⟩ := d_check_goal
  obtain ⟨_, _, a_file_state, F_file_state⟩ := d_file_state
  obtain ⟨_, _, a_file_at, F_file_at⟩ := d_file_at
  obtain ⟨_, _, a_is_write, F_is_write⟩ := d_is_write
  obtain ⟨_, _, a_check_write, F_check_write⟩ := d_check_write
  obtain ⟨_, _, a_after, F_after⟩ := d_after
  obtain ⟨_, _, a_is_safe, F_is_safe⟩ := d_is_safe
  obtain ⟨_, _, a_is_edit, F_is_edit⟩ := d_is_edit
  obtain ⟨_, _, a_check_edit, F_check_edit⟩ := d_check_edit
  obtain ⟨_, _, a_edited, F_edited⟩ := d_edited
  obtain ⟨_, _, a__law_number, F__law_number⟩ := d__law_number
  obtain ⟨_, _, a__law_file, F__law_file⟩ := d__law_file
  obtain ⟨_, _, a__law_text, F__law_text⟩ := d__law_text
  obtain ⟨_, _, a__law_after, F__law_after⟩ := d__law_after
  obtain ⟨_, _, a__law_left, F__law_left⟩ := d__law_left
  obtain ⟨_, _, a__law_writes, F__law_writes⟩ := d__law_writes
  obtain ⟨_, _, a__law_moves, F__law_moves⟩ := d__law_moves
  obtain ⟨_, _, a__law_state, F__law_state⟩ := d__law_state
  obtain ⟨_, _, a__law_edit, F__law_edit⟩ := d__law_edit
  obtain ⟨_, _, a__law_done, F__law_done⟩ := d__law_done
  obtain ⟨_, _, a__law_edits, F__law_edits⟩ := d__law_edits
  obtain ⟨_, _, a__law_is_at, F__law_is_at⟩ := d__law_is_at
  obtain ⟨_, _, a__law_word, F__law_word⟩ := d__law_word
  obtain ⟨_, _, a__law_one_right, F__law_one_right, k__law_one_right⟩ := mk1
  obtain ⟨_, _, a__law_all_right, F__law_all_right, k__law_all_right⟩ := mk2
  obtain ⟨f_law, fd_law, a_law, F_law, k_law⟩ := mkl
  obtain ⟨_, _, _, O_letters, F_p_letters⟩ := p_letters
  obtain ⟨_, _, _, O_pieces, F_p_pieces⟩ := p_pieces
  obtain ⟨_, _, _, O_order, F_p_order⟩ := p_order
  obtain ⟨_, _, _, O_piece_price, F_p_piece_price⟩ := p_piece_price
  obtain ⟨_, _, _, O_order_price, F_p_order_price⟩ := p_order_price
  obtain ⟨_, _, _, O_torn, F_p_torn⟩ := p_torn
  obtain ⟨_, _, _, O_text, F_p_text⟩ := p_text
  obtain ⟨_, _, M_init, F_m_init⟩ := m_init
  obtain ⟨_, _, _, SO_current, SF_current⟩ := sp_current
  obtain ⟨_, _, _, SO_aim, SF_aim⟩ := sp_aim
  obtain ⟨_, _, _, SO_journal, SF_journal⟩ := sp_journal
  obtain ⟨_, _, SM_len, SG_len⟩ := sm_len
  obtain ⟨_, _, SM_edit, SG_edit⟩ := sm_edit
  obtain ⟨_, _, SM_undo, SG_undo⟩ := sm_undo
  obtain ⟨_, _, SM_branch, SG_branch⟩ := sm_branch
  obtain ⟨_, _, SM_trial, SG_trial⟩ := sm_trial
  obtain ⟨_, _, SM_tried, SG_tried⟩ := sm_tried
  obtain ⟨_, _, SM_init, SG_init⟩ := sm_init
  obtain ⟨_, _, CM_init, CG_init⟩ := cm_init
  obtain ⟨_, _, CM_fixed, CG_fixed⟩ := cm_fixed
  obtain ⟨_, _, TM_init, TG_init⟩ := tm_init
  obtain ⟨_, _, TM_enter, TG_enter⟩ := tm_enter
  obtain ⟨_, _, TM_exit, TG_exit⟩ := tm_exit
  have e := hfa.symm.trans (PySem.W.mg_of X G a_law)
  cases e
  refine ⟨fd_law, ?_, fun base _ _ tb => ?_⟩
  · obtain ⟨oc, od, kV, doc, pm, an, ct, osl, rfl, _⟩ := F_law.ex
    exact fun s v => .of_eq rfl
  let g : Gb := ⟨P, w, K, mg, base⟩
  have B : Bt g := ⟨PySem.W.mg_none_of X G b_isinstance, PySem.W.mg_none_of X G b_int, PySem.W.mg_none_of X G b_bool, PySem.W.mg_none_of X G b_str, PySem.W.mg_none_of X G b_tuple, PySem.W.mg_none_of X G b_list, PySem.W.mg_none_of X G b_len, PySem.W.mg_none_of X G b_all, PySem.W.mg_none_of X G b_range, PySem.W.mg_none_of X G b_enumerate, PySem.W.mg_none_of X G b_sum⟩
  have S : Cs g := ⟨⟨_, PySem.W.mg_of X G c_PIECE_LETTERS⟩, ⟨_, PySem.W.mg_of X G c_ORDER_BLOCKS⟩, ⟨_, PySem.W.mg_of X G c_TEXT_LETTERS⟩⟩
  have S2 : Cf g := ⟨⟨_, PySem.W.mg_of X G c_MOST_BLOCKS⟩, ⟨_, PySem.W.mg_of X G c_MOST_PRICE⟩, ⟨_, PySem.W.mg_of X G c_SETS, letters_mk r_SETS⟩⟩
  have mz : g.mg "zip" = none := PySem.W.mg_none_of X G b_zip
  have n_is_number : Fn g 1 "is_number" R_number := Fn.mk' F_is_number (ok_number (g := g) B F_is_number) (PySem.W.mg_of X G a_is_number) (F_is_number.binds (ps := ["value"]) fun _ _ _ _ _ _ us hl => match us, hl with | [_], _ => rfl)
  have n_is_word : Fn g 1 "is_word" R_word := Fn.mk' F_is_word (ok_word (g := g) B F_is_word) (PySem.W.mg_of X G a_is_word) (F_is_word.binds (ps := ["letters", "most", "value"]) fun _ _ _ _ _ _ us hl => match us, hl with | [_, _, _], _ => rfl)
  have n_is_piece : Fn g 2 "is_piece" R_piece := Fn.mk' F_is_piece (ok_piece (g := g) S n_is_word F_is_piece) (PySem.W.mg_of X G a_is_piece) (F_is_piece.binds (ps := ["letters", "value"]) fun _ _ _ _ _ _ us hl => match us, hl with | [_, _], _ => rfl)
  have n_is_text : Fn g 2 "is_text" R_text := Fn.mk' F_is_text (ok_text (g := g) S n_is_word F_is_text) (PySem.W.mg_of X G a_is_text) (F_is_text.binds (ps := ["letters", "value"]) fun _ _ _ _ _ _ us hl => match us, hl with | [_, _], _ => rfl)
  have n_is_block : Fn g 2 "is_block" R_block := Fn.mk' F_is_block (ok_block (g := g) n_is_number F_is_block) (PySem.W.mg_of X G a_is_block) (F_is_block.binds (ps := ["blocks", "value"]) fun _ _ _ _ _ _ us hl => match us, hl with | [_, _], _ => rfl)
  have n_is_order : Fn g 3 "is_order" R_order := Fn.mk' F_is_order (ok_order (g := g) B S n_is_block F_is_order) (PySem.W.mg_of X G a_is_order) (F_is_order.binds (ps := ["blocks", "value"]) fun _ _ _ _ _ _ us hl => match us, hl with | [_, _], _ => rfl)
  have n_is_state_write : Fn g 4 "is_state_write" R_swrite := Fn.mk' F_is_state_write (ok_swrite (g := g) B n_is_piece n_is_block n_is_order F_is_state_write) (PySem.W.mg_of X G a_is_state_write) (F_is_state_write.binds (ps := ["letters", "state", "value"]) fun _ _ _ _ _ _ us hl => match us, hl with | [_, _, _], _ => rfl)
  have n_state_text : Fn g 1 "state_text" R_stext := Fn.mk' F_state_text (ok_stext (g := g) F_state_text) (PySem.W.mg_of X G a_state_text) (F_state_text.binds (ps := ["state"]) fun _ _ _ _ _ _ us hl => match us, hl with | [_], _ => rfl)
  have n_old_content : Fn g 1 "old_content" R_old := Fn.mk' F_old_content (ok_old (g := g) F_old_content) (PySem.W.mg_of X G a_old_content) (F_old_content.binds (ps := ["state", "write"]) fun _ _ _ _ _ _ us hl => match us, hl with | [_, _], _ => rfl)
  have n_put_content : Fn g 1 "put_content" R_put := Fn.mk' F_put_content (ok_put (g := g) F_put_content) (PySem.W.mg_of X G a_put_content) (F_put_content.binds (ps := ["state", "write", "content"]) fun _ _ _ _ _ _ us hl => match us, hl with | [_, _, _], _ => rfl)
  have n_state_after : Fn g 2 "state_after" R_safter := Fn.mk' F_state_after (ok_safter (g := g) n_put_content F_state_after) (PySem.W.mg_of X G a_state_after) (F_state_after.binds (ps := ["state", "write"]) fun _ _ _ _ _ _ us hl => match us, hl with | [_, _], _ => rfl)
  have n_torn_contents : Fn g 1 "torn_contents" R_tornc := Fn.mk' F_torn_contents (ok_tornc (g := g) B F_torn_contents) (PySem.W.mg_of X G a_torn_contents) (F_torn_contents.binds (ps := ["old", "new"]) fun _ _ _ _ _ _ us hl => match us, hl with | [_, _], _ => rfl)
  have n_torn_states : Fn g 2 "torn_states" R_torn := Fn.mk' F_torn_states (ok_torn (g := g) n_old_content n_torn_contents n_put_content F_torn_states) (PySem.W.mg_of X G a_torn_states) (F_torn_states.binds (ps := ["state", "write"]) fun _ _ _ _ _ _ us hl => match us, hl with | [_, _], _ => rfl)
  have n_state_readings : Fn g 3 "state_readings" R_readings := Fn.mk' F_state_readings (ok_readings (g := g) n_state_text n_torn_states n_state_after F_state_readings) (PySem.W.mg_of X G a_state_readings) (F_state_readings.binds (ps := ["state", "write", "torn"]) fun _ _ _ _ _ _ us hl => match us, hl with | [_, _, _], _ => rfl)
  have n_is_safe_write : Fn g 4 "is_safe_write" R_issafe := Fn.mk' F_is_safe_write (ok_issafe (g := g) B n_state_text n_state_readings F_is_safe_write) (PySem.W.mg_of X G a_is_safe_write) (F_is_safe_write.binds (ps := ["state", "write", "torn", "text"]) fun _ _ _ _ _ _ us hl => match us, hl with | [_, _, _, _], _ => rfl)
  have n_is_letters : Fn g 1 "is_letters" R_isl := Fn.mk' F_is_letters (ok_isl (g := g) B S2 F_is_letters) (PySem.W.mg_of X G a_is_letters) (F_is_letters.binds (ps := ["value"]) fun _ _ _ _ _ _ us hl => match us, hl with | [_], _ => rfl)
  have n_are_pieces : Fn g 3 "are_pieces" R_arep := Fn.mk' F_are_pieces (ok_arep (g := g) B S2 n_is_piece F_are_pieces) (PySem.W.mg_of X G a_are_pieces) (F_are_pieces.binds (ps := ["letters", "value"]) fun _ _ _ _ _ _ us hl => match us, hl with | [_, _], _ => rfl)
  have n_is_price : Fn g 2 "is_price" R_price := Fn.mk' F_is_price (ok_price (g := g) S2 n_is_number F_is_price) (PySem.W.mg_of X G a_is_price) (F_is_price.binds (ps := ["value"]) fun _ _ _ _ _ _ us hl => match us, hl with | [_], _ => rfl)
  have L : Fl g C := ⟨⟨⟨pg, hd, po, sa⟩, kc, kg, kt, km, PySem.W.mg_of X G aC⟩, no_letters, no_pieces, no_order, no_piece_price, no_order_price, no_torn⟩
  have q_init := ok_finit (g := g) B L n_is_letters n_are_pieces n_is_order n_is_price F_m_init
  obtain ⟨mv, KB⟩ := F_m_init.kbinds0 (ps := ["self", "letters", "pieces", "order", "piece_price", "order_price", "torn"]) 4 ["piece_price", "order_price", "torn"] [] (fun us _ ws => us ++ ws) (by simp [kw3]) (fun q hq => by cases hq) (fun r1 _ r2 => r1.append r2) (fun D doc pm an cdv ct us mv ws l1 _ l2 => match us, ws, l1, l2 with | [_, _, _, _], [_, _, _], _, _ => rfl)
  have MF : Mf g 4 3 ["piece_price", "order_price", "torn"] C "File" [] R_finit := ⟨PySem.W.mg_of X G aC, _, _, _, _, _, [], M_init, q_init, KB, fun v vs zs => by rw [List.append_nil]; rfl, fun S => .nil⟩
  have P_letters : Pr g 1 C "letters" (R_get C "_letters") := ⟨_, _, O_letters, _, ["self"], ok_get (g := g) L.kl.c L.n1 ⟨rfl, rfl, rfl, by decide +kernel, rfl, by decide +kernel, by decide +kernel⟩ rfl F_p_letters, (F_p_letters.binds (ps := ["self"]) fun _ _ _ _ _ _ us hl => match us, hl with | [_], _ => rfl)⟩
  have P_pieces : Pr g 1 C "pieces" (R_get C "_pieces") := ⟨_, _, O_pieces, _, ["self"], ok_get (g := g) L.kl.c L.n2 ⟨rfl, rfl, rfl, by decide +kernel, rfl, by decide +kernel, by decide +kernel⟩ rfl F_p_pieces, (F_p_pieces.binds (ps := ["self"]) fun _ _ _ _ _ _ us hl => match us, hl with | [_], _ => rfl)⟩
  have P_order : Pr g 1 C "order" (R_get C "_order") := ⟨_, _, O_order, _, ["self"], ok_get (g := g) L.kl.c L.n3 ⟨rfl, rfl, rfl, by decide +kernel, rfl, by decide +kernel, by decide +kernel⟩ rfl F_p_order, (F_p_order.binds (ps := ["self"]) fun _ _ _ _ _ _ us hl => match us, hl with | [_], _ => rfl)⟩
  have P_piece_price : Pr g 1 C "piece_price" (R_get C "_piece_price") := ⟨_, _, O_piece_price, _, ["self"], ok_get (g := g) L.kl.c L.n4 ⟨rfl, rfl, rfl, by decide +kernel, rfl, by decide +kernel, by decide +kernel⟩ rfl F_p_piece_price, (F_p_piece_price.binds (ps := ["self"]) fun _ _ _ _ _ _ us hl => match us, hl with | [_], _ => rfl)⟩
  have P_order_price : Pr g 1 C "order_price" (R_get C "_order_price") := ⟨_, _, O_order_price, _, ["self"], ok_get (g := g) L.kl.c L.n5 ⟨rfl, rfl, rfl, by decide +kernel, rfl, by decide +kernel, by decide +kernel⟩ rfl F_p_order_price, (F_p_order_price.binds (ps := ["self"]) fun _ _ _ _ _ _ us hl => match us, hl with | [_], _ => rfl)⟩
  have P_torn : Pr g 1 C "torn" (R_get C "_torn") := ⟨_, _, O_torn, _, ["self"], ok_get (g := g) L.kl.c L.n6 ⟨rfl, rfl, rfl, by decide +kernel, rfl, by decide +kernel, by decide +kernel⟩ rfl F_p_torn, (F_p_torn.binds (ps := ["self"]) fun _ _ _ _ _ _ us hl => match us, hl with | [_], _ => rfl)⟩
  have Pf : Fp g C := ⟨P_letters, P_pieces, P_order, P_piece_price, P_order_price, P_torn, MF⟩
  have PT : Pr g 2 C "text" (R_ftext C) := ⟨_, _, O_text, _, ["self"], ok_ftext (g := g) L n_state_text F_p_text, (F_p_text.binds (ps := ["self"]) fun _ _ _ _ _ _ us hl => match us, hl with | [_], _ => rfl)⟩
  have n_check_file : Fn g 1 "check_file" (R_cfile C) := Fn.mk' F_check_file (ok_cfile (g := g) B L F_check_file) (PySem.W.mg_of X G a_check_file) (F_check_file.binds (ps := ["file"]) fun _ _ _ _ _ _ us hl => match us, hl with | [_], _ => rfl)
  have n_check_goal : Fn g 3 "check_goal" (R_cgoal C) := Fn.mk' F_check_goal (ok_cgoal (g := g) L Pf n_is_text F_check_goal) (PySem.W.mg_of X G a_check_goal) (F_check_goal.binds (ps := ["file", "text"]) fun _ _ _ _ _ _ us hl => match us, hl with | [_, _], _ => rfl)
  have n_file_state : Fn g 3 "file_state" (R_fstate C) := Fn.mk' F_file_state (ok_fstate (g := g) L Pf F_file_state) (PySem.W.mg_of X G a_file_state) (F_file_state.binds (ps := ["file"]) fun _ _ _ _ _ _ us hl => match us, hl with | [_], _ => rfl)
  have n_file_at : Fn g 6 "file_at" (R_fat C) := Fn.mk' F_file_at (ok_fat (g := g) L Pf F_file_at) (PySem.W.mg_of X G a_file_at) (F_file_at.binds (ps := ["file", "state"]) fun _ _ _ _ _ _ us hl => match us, hl with | [_, _], _ => rfl)
  have n_is_write : Fn g 5 "is_write" (R_iswr C) := Fn.mk' F_is_write (ok_iswr (g := g) L Pf n_check_file n_file_state n_is_state_write F_is_write) (PySem.W.mg_of X G a_is_write) (F_is_write.binds (ps := ["file", "value"]) fun _ _ _ _ _ _ us hl => match us, hl with | [_, _], _ => rfl)
  have n_check_write : Fn g 5 "check_write" (R_cwr C) := Fn.mk' F_check_write (ok_cwr (g := g) L Pf n_file_state n_is_state_write F_check_write) (PySem.W.mg_of X G a_check_write) (F_check_write.binds (ps := ["file", "write"]) fun _ _ _ _ _ _ us hl => match us, hl with | [_, _], _ => rfl)
  have n_after : Fn g 7 "after" (R_after C) := Fn.mk' F_after (ok_after (g := g) n_check_file n_check_write n_file_state n_state_after n_file_at F_after) (PySem.W.mg_of X G a_after) (F_after.binds (ps := ["file", "write"]) fun _ _ _ _ _ _ us hl => match us, hl with | [_, _], _ => rfl)
  have n_is_safe : Fn g 6 "is_safe" (R_safe C) := Fn.mk' F_is_safe (ok_safe (g := g) L Pf n_check_file n_check_goal n_check_write n_file_state n_is_safe_write F_is_safe) (PySem.W.mg_of X G a_is_safe) (F_is_safe.binds (ps := ["file", "write", "text"]) fun _ _ _ _ _ _ us hl => match us, hl with | [_, _, _], _ => rfl)
  have n_is_edit : Fn g 6 "is_edit" (R_isedit C) := Fn.mk' F_is_edit (ok_isedit (g := g) B L Pf n_is_text n_is_write F_is_edit) (PySem.W.mg_of X G a_is_edit) (F_is_edit.binds (ps := ["file", "value"]) fun _ _ _ _ _ _ us hl => match us, hl with | [_, _], _ => rfl)
  have XE : Xc g CE "BadEdit" := xcCE.xc (PySem.W.mg_of X G aCE)
  have XN : Xc g CN "NothingDone" := xcCN.xc (PySem.W.mg_of X G aCN)
  have n_check_edit : FnZ g 7 "check_edit" (R_ceditZ C CE) := ⟨_, _, ["file", "edit"], ok_ceditZ (g := g) XE n_is_edit F_check_edit, PySem.W.mg_of X G a_check_edit, F_check_edit.kp, (F_check_edit.binds (ps := ["file", "edit"]) fun _ _ _ _ _ _ us hl => match us, hl with | [_, _], _ => rfl)⟩
  have n_edited : Fn g 8 "edited" (R_edited C) := Fn.mk' F_edited (ok_edited (g := g) L Pf PT n_is_safe n_after F_edited) (PySem.W.mg_of X G a_edited) (F_edited.binds (ps := ["file", "aim", "edit"]) fun _ _ _ _ _ _ us hl => match us, hl with | [_, _, _], _ => rfl)
  have Sl : Ssl g CS CSc := ⟨⟨CS_pg, CS_hd, CS_po, CS_sa⟩, ⟨CSc_pg, CSc_hd, CSc_po, CSc_sa⟩, no_scope, no_moments, no_outer⟩
  have Tr0 : Tl g CT := ⟨⟨CT_pg, CT_hd, CT_po, CT_sa⟩, no_session⟩
  have Cu : Pr g 1 CS "current" (R_scur CS CSc) := ⟨_, _, SO_current, _, ["self"], ok_scur (g := g) Sl SF_current, (SF_current.binds (ps := ["self"]) fun _ _ _ _ _ _ us hl => match us, hl with | [_], _ => rfl)⟩
  have Ai : Pr g 1 CS "aim" (R_saim CS CSc) := ⟨_, _, SO_aim, _, ["self"], ok_saim (g := g) Sl SF_aim, (SF_aim.binds (ps := ["self"]) fun _ _ _ _ _ _ us hl => match us, hl with | [_], _ => rfl)⟩
  have Jo : Pr g 1 CS "journal" (R_sjou CS CSc) := ⟨_, _, SO_journal, _, ["self"], ok_sjou (g := g) Sl SF_journal, (SF_journal.binds (ps := ["self"]) fun _ _ _ _ _ _ us hl => match us, hl with | [_], _ => rfl)⟩
  have Ln : Lo g 3 CS (R_slen CS CSc) := ⟨_, SM_len, _, ["self"], ok_slen (g := g) B Sl Jo SG_len, (SG_len.binds (ps := ["self"]) fun _ _ _ _ _ _ us hl => match us, hl with | [_], _ => rfl)⟩
  have Mc : MkW g 1 CSc "Scope" (A_sci g.K CSc) := ⟨PySem.W.mg_of X G aCSc, _, _, ["self", "moments", "outer"], CM_init, ok_sci (g := g) B Sl CG_init, (CG_init.binds (ps := ["self", "moments", "outer"]) fun _ _ _ _ _ _ us hl => match us, hl with | [_, _, _], _ => rfl)⟩
  have Ms : MkW g 3 CS "Session" (A_ssi g.K C CS CSc) := ⟨PySem.W.mg_of X G aCS, _, _, ["self", "file"], SM_init, ok_ssi (g := g) B Sl n_check_file Mc SG_init, (SG_init.binds (ps := ["self", "file"]) fun _ _ _ _ _ _ us hl => match us, hl with | [_, _], _ => rfl)⟩
  have Fi : Me g 1 CSc "fixed" (R_fixed CSc) := ⟨_, CM_fixed, _, ["self"], ok_fixed (g := g) Sl CG_fixed, (CG_fixed.binds (ps := ["self"]) fun _ _ _ _ _ _ us hl => match us, hl with | [_], _ => rfl)⟩
  have Un : MeW g 3 CS "undo" (A_sun g.K CS CSc CN) := ⟨_, SM_undo, _, ["self"], ok_sun (g := g) B Sl XN Fi SG_undo, (SG_undo.binds (ps := ["self"]) fun _ _ _ _ _ _ us hl => match us, hl with | [_], _ => rfl)⟩
  have Ed : MeW g 9 CS "edit" (A_sed g.K C CS CSc CE [CS, CSc, CT]) := ⟨_, SM_edit, _, ["self", "edit"], ok_sed (g := g) Sl Cu Ai n_check_edit n_edited SG_edit, (SG_edit.binds (ps := ["self", "edit"]) fun _ _ _ _ _ _ us hl => match us, hl with | [_, _], _ => rfl)⟩
  have Br : MeW g 5 CS "branch" (A_sbr g.K C CS CSc [CS, CSc, CT]) := ⟨_, SM_branch, _, ["self"], ok_sbr (g := g) Sl Cu Ms Mc SG_branch, (SG_branch.binds (ps := ["self"]) fun _ _ _ _ _ _ us hl => match us, hl with | [_], _ => rfl)⟩
  have MkT : MkW g 1 CT "Trial" (A_tri g.K CT) := ⟨PySem.W.mg_of X G aCT, _, _, ["self", "session"], TM_init, ok_tri (g := g) Tr0 TG_init, (TG_init.binds (ps := ["self", "session"]) fun _ _ _ _ _ _ us hl => match us, hl with | [_, _], _ => rfl)⟩
  have Tl0 : MeW g 3 CS "trial" (A_str g.K CT) := ⟨_, SM_trial, _, ["self"], ok_str (g := g) MkT SG_trial, (SG_trial.binds (ps := ["self"]) fun _ _ _ _ _ _ us hl => match us, hl with | [_], _ => rfl)⟩
  have Wt0 : Wt g 3 CT (fun m ds R => A_ten g.K CS CSc CT m ds R noZ) (A_tex g.K CS CSc CT) := ⟨_, _, _, _, ["self"], ["self", "kind", "value", "trace"], 3, 1, by decide, by decide, TM_enter, TM_exit, FnOk.noW (ok_ten (g := g) Sl Tr0 Mc TG_enter), (TG_enter.binds (ps := ["self"]) fun _ _ _ _ _ _ us hl => match us, hl with | [_], _ => rfl), (ok_tex (g := g) Sl Tr0 TG_exit).1, (ok_tex (g := g) Sl Tr0 TG_exit).2, (TG_exit.binds (ps := ["self", "kind", "value", "trace"]) fun _ _ _ _ _ _ us hl => match us, hl with | [_, _, _, _], _ => rfl)⟩
  have iCS : ([CS, CSc, CT] : List Addr).contains CS = true := by simp
  have iCSc : ([CS, CSc, CT] : List Addr).contains CSc = true := by simp
  have iCT : ([CS, CSc, CT] : List Addr).contains CT = true := by simp
  have nC2 : ([CS, CSc, CT] : List Addr).contains C = false := by
    have h : (!([CS, CSc, CT] : List Addr).contains C) = true := nC
    cases z : ([CS, CSc, CT] : List Addr).contains C
    · rfl
    · rw [z] at h; cases h
  have Td : MeW g 10 CS "tried" (A_strd g.K C CS CSc CE [CS, CSc, CT]) := ⟨_, SM_tried, _, ["self", "edits"], ok_strd (g := g) B Sl Tr0 ⟨_, PySem.W.mg_of X G c_MOST_TRIED⟩ XE Tl0 iCT iCS iCSc Ed Wt0 SG_tried, (SG_tried.binds (ps := ["self", "edits"]) fun _ _ _ _ _ _ us hl => match us, hl with | [_, _], _ => rfl)⟩
  have n__law_number : Fn g 1 "_law_number" R_num := Fn.mk' F__law_number (ok_num (g := g) B F__law_number) (PySem.W.mg_of X G a__law_number) (F__law_number.binds (ps := ["_law_script", "_law_index"]) fun _ _ _ _ _ _ us hl => match us, hl with | [_, _], _ => rfl)
  have n__law_file : Fn g 6 "_law_file" (R_lfile C) := Fn.mk' F__law_file (ok_lfile (g := g) B Pf F__law_file) (PySem.W.mg_of X G a__law_file) (F__law_file.binds (ps := ["_law_seed", "_law_blocks"]) fun _ _ _ _ _ _ us hl => match us, hl with | [_, _], _ => rfl)
  have n__law_text : Fn g 1 "_law_text" R_stext := Fn.mk' F__law_text (ok_ltx (g := g) F__law_text) (PySem.W.mg_of X G a__law_text) (F__law_text.binds (ps := ["_law_state_here"]) fun _ _ _ _ _ _ us hl => match us, hl with | [_], _ => rfl)
  have n__law_after : Fn g 1 "_law_after" R_safter := Fn.mk' F__law_after (ok_lafter (g := g) F__law_after) (PySem.W.mg_of X G a__law_after) (F__law_after.binds (ps := ["_law_state_here", "_law_write"]) fun _ _ _ _ _ _ us hl => match us, hl with | [_, _], _ => rfl)
  have n__law_left : Fn g 2 "_law_left" R_lleft := Fn.mk' F__law_left (ok_lleft (g := g) B n__law_after F__law_left) (PySem.W.mg_of X G a__law_left) (F__law_left.binds (ps := ["_law_state_here", "_law_write", "_law_can_tear"]) fun _ _ _ _ _ _ us hl => match us, hl with | [_, _, _], _ => rfl)
  have n__law_writes : Fn g 1 "_law_writes" R_lwrs := Fn.mk' F__law_writes (ok_lwrs (g := g) B F__law_writes) (PySem.W.mg_of X G a__law_writes) (F__law_writes.binds (ps := ["_law_file_here", "_law_state_here"]) fun _ _ _ _ _ _ us hl => match us, hl with | [_, _], _ => rfl)
  have n__law_moves : Fn g 3 "_law_moves" (R_lmoves C) := Fn.mk' F__law_moves (ok_lmoves (g := g) B L Pf n__law_text n__law_left n__law_writes n__law_after F__law_moves) (PySem.W.mg_of X G a__law_moves) (F__law_moves.binds (ps := ["_law_file_here", "_law_state_here", "_law_texts"]) fun _ _ _ _ _ _ us hl => match us, hl with | [_, _, _], _ => rfl)
  have n__law_state : Fn g 3 "_law_state" (R_fstate C) := Fn.mk' F__law_state (ok_lstate (g := g) L Pf F__law_state) (PySem.W.mg_of X G a__law_state) (F__law_state.binds (ps := ["_law_file_here"]) fun _ _ _ _ _ _ us hl => match us, hl with | [_], _ => rfl)
  have n__law_edit : Fn g 3 "_law_edit" (R_ledit C) := Fn.mk' F__law_edit (ok_ledit (g := g) B L Pf n__law_text n__law_left n__law_after F__law_edit) (PySem.W.mg_of X G a__law_edit) (F__law_edit.binds (ps := ["_law_file_here", "_law_state_here", "_law_aim", "_law_edit_here"]) fun _ _ _ _ _ _ us hl => match us, hl with | [_, _, _, _], _ => rfl)
  have n__law_done : Fn g 4 "_law_done" (R_ldn C) := Fn.mk' F__law_done (ok_ldn (g := g) n__law_state n__law_edit F__law_done) (PySem.W.mg_of X G a__law_done) (F__law_done.binds (ps := ["_law_file_here", "_law_edits_here"]) fun _ _ _ _ _ _ us hl => match us, hl with | [_, _], _ => rfl)
  have n__law_edits : Fn g 5 "_law_edits" (R_leds C) := Fn.mk' F__law_edits (ok_leds (g := g) B n__law_number n__law_done n__law_text n__law_moves n__law_writes F__law_edits) (PySem.W.mg_of X G a__law_edits) (F__law_edits.binds (ps := ["_law_script", "_law_index", "_law_file_here", "_law_count"]) fun _ _ _ _ _ _ us hl => match us, hl with | [_, _, _, _], _ => rfl)
  have n__law_is_at : Fn g 5 "_law_is_at" (R_lisat C CS CSc) := Fn.mk' F__law_is_at (ok_lisat (g := g) B L Pf mz B.list Sl Cu Ai Jo Ln n__law_done F__law_is_at) (PySem.W.mg_of X G a__law_is_at) (F__law_is_at.binds (ps := ["_law_session", "_law_file_here", "_law_edits_here"]) fun _ _ _ _ _ _ us hl => match us, hl with | [_, _, _], _ => rfl)
  have wdf : Wdf g CN CE := ⟨⟨PySem.W.mg_of X G aCN, PySem.W.mg_of X G aCE, xnn, xen, xee⟩, _, _, F__law_word, PySem.W.mg_of X G a__law_word, (F__law_word.binds (ps := ["_law_function", "_law_things"]) fun _ _ _ _ _ _ us hl => match us, hl with | [_, _], _ => rfl)⟩
  have KO : Kone g C CS CSc CE CN [CS, CSc, CT] c1 P1 qLO := ⟨B, L, Pf, Sl, Ms, wdf, tb (c1, P1) (by simp), Un, Ed, Br, Td, Cu, n__law_is_at, n__law_done, nC2, iCS, iCSc⟩
  have t1 : FnT g 13 1 [(P1, qLO)] "_law_one_right" (R_lone C) := ⟨_, _, ["_law_file_here", "_law_first", "_law_more"], ok_lone (g := g) KO F__law_one_right (by decide +kernel), PySem.W.mg_of X G a__law_one_right, k__law_one_right, ((fun_of F__law_one_right k__law_one_right).binds (ps := ["_law_file_here", "_law_first", "_law_more"]) fun _ _ _ _ _ _ us hl => match us, hl with | [_, _, _], _ => rfl)⟩
  have t2 : FnT g 14 1 [(P1, qLO)] "_law_all_right" R_lall := ⟨_, _, ["_law_script"], ok_lall9 (g := g) B n__law_number n__law_file n__law_edits t1 F__law_all_right, PySem.W.mg_of X G a__law_all_right, k__law_all_right, ((fun_of F__law_all_right k__law_all_right).binds (ps := ["_law_script"]) fun _ _ _ _ _ _ us hl => match us, hl with | [_], _ => rfl)⟩
  exact ok_law9 (g := g) t2 F_law
end SP

/-! What follows from the answers. -/
namespace HF
open PySem PySem.Spec PyProof.Rows L2 PD LamX PySem.W SP
theorem Tolds.left {K : Frag} {a b : List (List Ask)} (e : Tolds K (a ++ b)) : Tolds K a := by
  unfold Tolds at e ⊢
  rw [List.map_append, List.map_append] at e
  exact List.append_inj_left e (by simp)
theorem Tolds.right {K : Frag} {a b : List (List Ask)} (e : Tolds K (a ++ b)) : Tolds K b := by
  unfold Tolds at e ⊢
  rw [List.map_append, List.map_append] at e
  exact List.append_inj_right e (by simp)
theorem end9h {P : Program} {w : World} {K : Frag} {h : Heap} {mg : Str → Option Value} {fa : Addr} (X : K.In h) (G : h.Ns mainGlobals mg) (hfa : mg "law" = some (.ref fa)) (T : Tolds K (qs P)) (hno : ∀ P ∈ [622], K.lookup P = none) :
    ∃ (fd : FuncData) (cs : List (Addr × Addr)) (sp : Sp), (∀ p ∈ cs, p.2 ∈ [622]) ∧ (∀ p ∈ cs, codeHdIn K p.1 p.2 = true) ∧ (∀ (s : Shared) (u : Value), BindsTo s fd ⟨[u], []⟩ [("_law_script", u)]) ∧
      (∀ (H : Hp) (a : Addr) (ns : List Int), ns.length ≤ 63 → (∀ p ∈ cs, H p.2 = some (.tbl #[])) → a ∉ cs.map (·.2) → SqL K H a (ns.map V.int) → sp [.ref a] H (fun v _ => v = .bl true) fun _ _ _ => False) ∧
      ∀ base : Heap, K.In base → base.Ns mainGlobals mg → (∀ p ∈ cs, TabB base mg p.1 p.2) → FnOkN P w K mg base CX0 15 1 fa fd ["_law_script"] sp := by
  unfold qs at T
  have T3 := T.right
  replace T := T.left
  have T2 := T.right
  replace T := T.left
  have T1 := T.right
  replace T := T.left
  have T0 := T
  obtain ⟨_, _, _, _, _, z_r_SETS⟩ := tup2_ok (b_of (T0.at 20 rfl))
  have e1 := b_of (f := fun K => codeHdIn K (cdA K "_law_one_right") 622) (T3.at 10 rfl)
  obtain ⟨fd, hb, hF⟩ := fin9 (P := P) (w := w) (c1 := cdA K "_law_one_right") (P1 := 622) X G hfa
    (ref_of (T0.at 0 rfl))
    (none_of (T0.at 1 rfl))
    (none_of (T0.at 2 rfl))
    (none_of (T0.at 3 rfl))
    (none_of (T0.at 4 rfl))
    (none_of (T0.at 5 rfl))
    (none_of (T0.at 6 rfl))
    (none_of (T0.at 7 rfl))
    (none_of (T0.at 8 rfl))
    (none_of (T0.at 9 rfl))
    (none_of (T0.at 10 rfl))
    (none_of (T0.at 11 rfl))
    (none_of (T0.at 12 rfl))
    (int_of (T0.at 13 rfl))
    (int_of (T0.at 14 rfl))
    (int_of (T0.at 15 rfl))
    (int_of (T0.at 16 rfl))
    (int_of (T0.at 17 rfl))
    (int_of (T0.at 18 rfl))
    (ref_of (T0.at 19 rfl))
    z_r_SETS
    (b_of (T0.at 21 rfl))
    (b_of (T0.at 22 rfl))
    (b_of (T0.at 23 rfl))
    (v_of (T0.at 24 rfl))
    (v_of (T0.at 25 rfl))
    (v_of (T0.at 26 rfl))
    (o_of (T0.at 27 rfl))
    (o_of (T0.at 28 rfl))
    (v_of (T0.at 29 rfl))
    (v_of (T0.at 30 rfl))
    (v_of (T0.at 31 rfl))
    (v_of (T0.at 32 rfl))
    (v_of (T0.at 33 rfl))
    (v_of (T0.at 34 rfl))
    (prop_of (T0.at 35 rfl))
    (prop_of (T0.at 36 rfl))
    (prop_of (T0.at 37 rfl))
    (prop_of (T0.at 38 rfl))
    (prop_of (T0.at 39 rfl))
    (prop_of (T1.at 0 rfl))
    (prop_of (T1.at 1 rfl))
    (init_ofF (T1.at 2 rfl))
    (def_of (T1.at 3 rfl))
    (def_of (T1.at 4 rfl))
    (def_of (T1.at 5 rfl))
    (def_of (T1.at 6 rfl))
    (def_of (T1.at 7 rfl))
    (def_of (T1.at 8 rfl))
    (def_of (T1.at 9 rfl))
    (def_of (T1.at 10 rfl))
    (def_of (T1.at 11 rfl))
    (def_of (T1.at 12 rfl))
    (def_of (T1.at 13 rfl))
    (def_of (T1.at 14 rfl))
    (def_of (T1.at 15 rfl))
    (def_of (T1.at 16 rfl))
    (def_of (T1.at 17 rfl))
    (def_of (T1.at 18 rfl))
    (def_of (T1.at 19 rfl))
    (def_of (T1.at 20 rfl))
    (def_of (T1.at 21 rfl))
    (def_of (T1.at 22 rfl))
    (def_of (T1.at 23 rfl))
    (def_of (T1.at 24 rfl))
    (def_of (T1.at 25 rfl))
    (def_of (T1.at 26 rfl))
    (def_of (T1.at 27 rfl))
    (def_of (T1.at 28 rfl))
    (def_of (T1.at 29 rfl))
    (def_of (T1.at 30 rfl))
    (def_of (T1.at 31 rfl))
    (def_of (T1.at 32 rfl))
    (def_of (T1.at 33 rfl))
    (def_of (T1.at 34 rfl))
    (def_of (T1.at 35 rfl))
    (def_of (T1.at 36 rfl))
    (def_of (T1.at 37 rfl))
    (def_of (T1.at 38 rfl))
    (def_of (T1.at 39 rfl))
    (def_of (T2.at 0 rfl))
    (def_of (T2.at 1 rfl))
    (def_of (T2.at 2 rfl))
    (def_of (T2.at 3 rfl))
    (def_of (T2.at 4 rfl))
    (ref_of (T2.at 5 rfl))
    (ref_of (T2.at 6 rfl))
    (ref_of (T2.at 7 rfl))
    (ref_of (T2.at 8 rfl))
    (ref_of (T2.at 9 rfl))
    (b_of (T2.at 10 rfl))
    (b_of (T2.at 11 rfl))
    (b_of (T2.at 12 rfl))
    (v_of (T2.at 13 rfl))
    (b_of (T2.at 14 rfl))
    (b_of (T2.at 15 rfl))
    (b_of (T2.at 16 rfl))
    (v_of (T2.at 17 rfl))
    (b_of (T2.at 18 rfl))
    (b_of (T2.at 19 rfl))
    (b_of (T2.at 20 rfl))
    (v_of (T2.at 21 rfl))
    (v_of (T2.at 22 rfl))
    (v_of (T2.at 23 rfl))
    (v_of (T2.at 24 rfl))
    (v_of (T2.at 25 rfl))
    (prop_of (T2.at 26 rfl))
    (prop_of (T2.at 27 rfl))
    (prop_of (T2.at 28 rfl))
    (meth_of (T2.at 29 rfl))
    (meth_of (T2.at 30 rfl))
    (meth_of (T2.at 31 rfl))
    (meth_of (T2.at 32 rfl))
    (meth_of (T2.at 33 rfl))
    (meth_of (T2.at 34 rfl))
    (init_of0 (T2.at 35 rfl))
    (init_of0 (T2.at 36 rfl))
    (meth_of (T2.at 37 rfl))
    (init_of0 (T2.at 38 rfl))
    (meth_of (T2.at 39 rfl))
    (meth_of (T3.at 0 rfl))
    (xc_of (T3.at 1 rfl))
    (xc_of (T3.at 2 rfl))
    (o_of (T3.at 3 rfl))
    (o_of (T3.at 4 rfl))
    (o_of (T3.at 5 rfl))
    (b_of (T3.at 6 rfl))
    (maker_of (T3.at 7 rfl))
    (maker_of (T3.at 8 rfl))
    (maker_of (T3.at 9 rfl))
  refine ⟨fd, [(cdA K "_law_one_right", 622)], _, fun p hp => ?_, fun p hp => ?_, hb, fun H a ns hl h1 h2 h3 => at_script9 H a ns hl h1 h2 h3, hF⟩
  · rw [List.mem_singleton.mp hp]; simp
  · rw [List.mem_singleton.mp hp]; exact e1
end HF

open PySem PySem.W PySem.Calls PyProof.Rows
set_option maxHeartbeats 0 in
theorem PySem.Challenge.cw_safepatch_k34_whole_sessions_holds : PySem.Challenge.rw_safepatch_k34_whole_sessions.Holds := by
  w_on; o_law
  refine PD.head_X (r := OpenLaw.row PySem.Challenge.rw_safepatch_k34_whole_sessions) (q := HeadT.qv) (obs := HF.obS [622] 640 1 (HF.qs PySem.Challenge.rw_safepatch_k34_whole_sessions.prog)) (val := fun _ => HF.valG [622] (HF.qs PySem.Challenge.rw_safepatch_k34_whole_sessions.prog)) (ob := HF.obT [622] 640 1 (HF.qs PySem.Challenge.rw_safepatch_k34_whole_sessions.prog)) (M := 8000) (loose := HeadT.names) (d := HandSHeadRun.topDef (OpenLaw.row PySem.Challenge.rw_safepatch_k34_whole_sessions).prog 68) (kwd := []) (HF.obT_eq _ _ _ _)
    (by kernel_rfl) (fun s => by kernel_rfl) HeadT.run (by kernel_rfl) (by kernel_rfl) (by kernel_rfl) (by rfl) (by first | assumption | decide +kernel) (by decide +kernel) ⟨rfl, rfl, rfl, rfl, rfl, by decide +kernel⟩ ?hw ?hc
  case hw => w_witness2
  case hc =>
    refine HF.walk_any (l := PySem.Challenge.rw_safepatch_k34_whole_sessions) (n := 63) (k := 15) (m := 1) (x := "_law_script") rfl (by decide) (by kernel_rfl) ⟨rfl, by decide, by decide⟩ ?F
    intro w mg fa h K X G hmg0 T hno
    have hmg : mg ("law" : PySem.Str) = some (.ref fa) := by
      have e : (HandSHeadRun.topDef (OpenLaw.row PySem.Challenge.rw_safepatch_k34_whole_sessions).prog 68).name = ("law" : PySem.Str) := by kernel_rfl
      rw [← e]
      exact hmg0
    exact HF.end9h X G hmg T hno
#print axioms PySem.Challenge.cw_safepatch_k34_whole_sessions_holds
