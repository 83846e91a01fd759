import PyProof.Rows.All
import Wide.All
import OpenK.AllK
import Wide.FinOn
import Lean
import PyProof.EqAt
import PyProof.EqKinds
import PyProof.TupleCall
import PySem.Challenge.RW_fivefields_k44_shut_by
set_option maxHeartbeats 4000000
set_option compiler.extract_closed false
namespace Hd
open PySem PySem.W PySem.Calls PyProof.Rows
section
set_option maxHeartbeats 0
set_option maxRecDepth 100000
set_option linter.all false
noncomputable section
noncomputable abbrev pw:Program:=PySem.Challenge.pw_fivefields_k44_shut_by
noncomputable abbrev bi:List Stmt:=behindTheImports pw
noncomputable def nth:List Stmt->Nat->Stmt
 |s::_,0=>s
 |_::r,n+1=>nth r n
 |[],_=>.Pass default
noncomputable def tp(i:Nat):Stmt:=nth pw.main.body i
noncomputable def bd:Stmt->List Stmt
 |.FunctionDef _ _ b _ _ _ _ _ _ _=>b
 |.ClassDef _ _ _ b _ _ _ _ _ _ _=>b
 |_=>[]
noncomputable def ag:Stmt->Arguments
 |.FunctionDef _ a _ _ _ _ _ _ _ _=>a
 |_=>⟨[],[],none,[],[],none,[]⟩
noncomputable def sc:Stmt->Scope
 |.FunctionDef _ _ _ _ _ _ s _ _ _=>s
 |.ClassDef _ _ _ _ _ _ s _ _ _ _=>s
 |_=>pw.main.scope
noncomputable def r(a:Addr):Value:=.ref a
noncomputable def i(n:Int):Value:=.int n 0
noncomputable def de(P:Params)(k:Str)(t:Tok)(v:Value):DictEntry:=⟨PyData.keyHash P k,.str k t,v⟩
noncomputable def tu(l:List Value):Obj:=⟨.type "tuple",none,.seq l.toArray 0,#[]⟩
noncomputable def di(l:List DictEntry)(n:Nat):Obj:=⟨.type "dict",none,.dict l.toArray n,#[]⟩
noncomputable def co(l:List Value):Obj:=⟨.type "code",none,.fields l.toArray,#[]⟩
noncomputable def fd(l:List Value):Obj:=⟨.none,none,.fields l.toArray,#[]⟩
noncomputable def lf(x:Obj):BT:=.node x .nil .nil
noncomputable abbrev nd:Obj->BT->BT->BT:=BT.node
noncomputable def sf(t:Tok):Value:=.str "/claim/cut.py" t
noncomputable def fz(n q:Str)(s:Stmt):Obj:=⟨.none,none,.func ⟨n,q,ag s,.stmts (bd s),sc s,0,[],.none,.none,.none,.none,none,.none,.none,0⟩,#[]⟩
noncomputable def fn(n q:Str)(s:Stmt)(g:Addr)(c:List (Str×Addr))(d k o m:Value)(a:Option Addr)(x y:Value)(b:Addr):Obj:=⟨.type "function",none,.func ⟨n,q,ag s,.stmts (bd s),sc s,g,c,d,k,o,m,a,x,y,b⟩,#[]⟩
noncomputable def ib(s:Stmt)(i:Nat):Stmt:=nth (bd s) i
noncomputable def ev:Env:={scope:=pw.main.scope,locals:=mainNs,globals:=mainNs,cells:=[],code:=(r 13),frame:=some 14}
noncomputable def cd:Code:=.body bi ev
noncomputable abbrev an:Option Value:=(some (r 6))
noncomputable abbrev bk:List Frame:=[topFrame ⟨0,0,0,0⟩]
def o0:Obj:=tu []
def o1:Obj:=fd []
def o2:Obj:=co [(.str "<module>" 182),(.str "<module>" 183),(sf 184),(i 1),(i 0),(i 0),(i 0),(i 0),(r 11),(.bool false),(i 181),(r 12),.none,.none,.none,.none,(i 185),(i 1),(sf 186)]
def o3:Obj:=⟨(.type "frame"),none,.plain,#[(some (r 13)),(some (r 3)),(some (r 3)),none,(some (.str "__main__" 164)),none,(some (r 0))]⟩
def hA(P:Params):Heap:=⟨⟨[(boot_o_0 P),(boot_o_1 P),(boot_o_2 P),(boot_o_3 P),(boot_o_4 P),(boot_o_5 P),(boot_o_6 P),(boot_o_7 P),(boot_o_8 P),(boot_o_9 P),(boot_o_10 P),o0,o1,o2,o3]⟩,⟨[],[],[],0,[],[],false,#[],[],0,false,false,false,0,[2000,10,10],false,0,true,[],[],0,false⟩⟩
def sA(w:World)(os:OsState):Shared:=⟨hA w.params,#[],⟨0,0,0,0⟩,187,os⟩
theorem pre(w:World)(os:OsState):
  topGo treeTable pw w 11 an 12 ⟨boot_heap w.params,⟨[]⟩,boot_drawn,boot_toks,os⟩ (topStub pw) =
  some (sA w os,⟨denote treeTable cd,cd,⟨0,0,0,0⟩,bk⟩):=by kernel_rfl
def t0(P:Params):BT:=(nd (boot_o_0 P) (nd (boot_o_1 P) (nd (boot_o_3 P) (lf (boot_o_7 P)) (lf o0)) (nd (boot_o_5 P) (lf (boot_o_9 P)) (lf o2))) (nd (boot_o_2 P) (nd (boot_o_4 P) (lf (boot_o_8 P)) (lf o1)) (nd (boot_o_6 P) (lf (boot_o_10 P)) (lf o3))))
def s0(w:World)(os:OsState):SharedT:=⟨t0 w.params,15,⟨[],[],[],0,[],[],false,#[],[],0,false,false,false,0,[2000,10,10],false,0,true,[],[],0,false⟩,#[],⟨0,0,0,0⟩,187,os⟩
theorem blk(w:World)(os:OsState):
  segRun treeTable pw w 11 an 1 1 (sA w os) (blockOf bi ev cd ⟨0,0,0,0⟩ bk) =
  some (.next,(s0 w os).abs,cd,⟨0,0,0,0⟩):=by kernel_rfl
def o4(P:Params):Obj:=di [(de P "__name__" 165 (.str "fivefields.marks" 527)),(de P "__doc__" 166 .none),(de P "__package__" 167 .none),(de P "__loader__" 168 (.builtin "__main__.__loader__#opaque")),(de P "__spec__" 169 .none),(de P "__annotations__" 170 (r 6)),(de P "__builtins__" 171 (r 4)),(de P "__file__" 173 (sf 172)),(de P "__cached__" 174 .none),(de P "_wall" 193 (r 21)),(de P "FieldError" 213 (r 31)),(de P "NoDay" 229 (r 44)),(de P "NoField" 254 (r 63)),(de P "NoRow" 279 (r 82)),(de P "is_whole" 288 (r 91)),(de P "MONTH_LASTS" 303 (r 92)),(de P "ROUND_YEARS" 305 (.int 400 304)),(de P "ROUND_DAYS" 307 (.int 146097 306)),(de P "is_long" 314 (r 99)),(de P "multiples_before" 322 (r 106)),(de P "days_before" 330 (r 113)),(de P "last_of" 338 (r 120)),(de P "is_date" 347 (r 127)),(de P "day_of" 353 (r 132)),(de P "year_of" 361 (r 139)),(de P "date_of" 371 (r 146)),(de P "weekday" 378 (r 153)),(de P "FIGURES" 382 (.str "0123456789" 381)),(de P "all_figures" 388 (r 158)),(de P "is_written" 395 (r 165)),(de P "has" 405 (r 172)),(de P "starts_of" 411 (r 177)),(de P "end_from" 420 (r 184)),(de P "ranges_of" 426 (r 189)),(de P "shown_range" 434 (r 196)),(de P "shown_ranges" 440 (r 201)),(de P "MOST_SIGNS" 444 (.int 300 443)),(de P "MOST_ITEMS" 446 (.int 40 445)),(de P "MOST_STRIDE" 448 (.int 99 447)),(de P "mask_of" 457 (r 208)),(de P "numbers_in" 463 (r 213)),(de P "run_mask" 472 (r 220)),(de P "read_number" 482 (r 227)),(de P "read_run" 488 (r 232)),(de P "read_strided" 501 (r 239)),(de P "read_item" 512 (r 246)),(de P "read_field" 526 (r 253)),(de P "MOST_MARKS" 530 (.int 20 529)),(de P "MOST_DAY" 532 (.int 31 531)),(de P "MOST_BACK" 534 (.int 30 533)),(de P "MOST_NTH" 536 (.int 5 535)),(de P "SUNDAY" 538 (.int 0 537)),(de P "SATURDAY" 540 (.int 6 539)),(de P "SUNDAY_TOO" 542 (.int 7 541)),(de P "ALL_WEEKDAYS" 544 (.int 127 543)),(de P "weekday_at" 552 (r 260)),(de P "all_days" 559 (r 267)),(de P "nearest_work" 569 (r 274))] 58
def o5:Obj:=fd [(i 1),(i 0),(r 20),(i 5),(i 0),(r 27),(i 7),(i 0),(r 40),(i 9),(i 0),(r 52),(i 13),(i 0),(r 71),(i 18),(i 0),(r 90),(i 24),(i 0),(r 98),(i 26),(i 0),(r 105),(i 28),(i 0),(r 112),(i 31),(i 0),(r 119),(i 35),(i 0),(r 126),(i 39),(i 0),(r 131),(i 44),(i 0),(r 138),(i 49),(i 0),(r 145),(i 57),(i 0),(r 152),(i 61),(i 0),(r 157),(i 63),(i 0),(r 164),(i 66),(i 0),(r 171),(i 68),(i 0),(r 176),(i 71),(i 0),(r 183),(i 76),(i 0),(r 188),(i 78),(i 0),(r 195),(i 82),(i 0),(r 200),(i 88),(i 0),(r 207),(i 93),(i 0),(r 212),(i 95),(i 0),(r 219),(i 97),(i 0),(r 226),(i 104),(i 0),(r 231),(i 111),(i 0),(r 238),(i 118),(i 0),(r 245),(i 126),(i 0),(r 252),(i 148),(i 0),(r 259),(i 150),(i 0),(r 266),(i 152),(i 0),(r 273)]
def o6:Obj:=tu [(.str "k" 190)]
def o7:Obj:=fz "_wall" "_wall" (tp 0)
def o8:Obj:=co [(.str "_wall" 187),(.str "_wall" 188),(sf 189),(i 1),(i 1),(i 0),(i 0),(i 3),(r 15),(.bool true),(i 181),(r 16),.none,(r 17),(r 18),(r 19),(i 191),(i 1),(sf 192)]
def o9:Obj:=fn "_wall" "_wall" (tp 0) 3 [] .none .none .none (.str "__main__" 164) none (r 20) .none 0
def o10:Obj:=tu [(.type "ValueError")]
def o11:Obj:=⟨(.type "builtin_function_or_method"),none,(.fields #[(.builtin "type.__prepare__"),(.type "type")]),#[]⟩
def o12(P:Params):Obj:=di [(de P "__module__" 203 (.str "fivefields.errors" 194)),(de P "__qualname__" 205 (.str "FieldError" 204)),(de P "__firstlineno__" 207 (.int 5 206)),(de P "__static_attributes__" 208 (r 29))] 4
def o13:Obj:=co [(.str "FieldError" 198),(.str "FieldError" 199),(sf 200),(i 5),(i 0),(i 0),(i 0),(i 0),(r 25),(.bool false),(i 181),(r 26),.none,.none,.none,.none,(i 201),(i 5),(sf 202)]
def o14:Obj:=⟨(.type "frame"),none,.plain,#[(some (r 27)),(some (r 3)),(some (r 24)),none,(some (.str "fivefields.errors" 194)),none,(some (r 0))]⟩
def o15(P:Params):Obj:=di [(de P "__module__" 203 (.str "fivefields.errors" 194)),(de P "__firstlineno__" 207 (.int 5 206)),(de P "__static_attributes__" 208 (r 29)),(de P "__weakref__" 210 (r 32)),(de P "__doc__" 211 .none)] 3
def o16:Obj:=⟨(.type "type"),none,(.cls ⟨"FieldError",[(.type "ValueError")],[(r 31),(.type "ValueError"),(.type "Exception"),(.type "BaseException"),(.type "object")],30,"FieldError",true,[],[(r 44),(r 63),(r 82)],false,none,false⟩),#[(some (r 22)),none,(some (.str "FieldError" 196)),(some (.str "FieldError" 204)),(some (.builtin "ValueError.__new__")),(some (.bool true))]⟩
def o17:Obj:=⟨(.type "getset_descriptor"),none,(.fields #[(.str "__weakref__" 209),(r 31),(.builtin "ExceptionGroup.__weakref__"),.none]),#[]⟩
def o18:Obj:=⟨(.type "super"),none,(.fields #[(r 31),(r 31),(r 31)]),#[]⟩
def o19:Obj:=⟨(.type "builtin_function_or_method"),none,(.fields #[(.builtin "object.__init_subclass__"),(r 31)]),#[]⟩
def o20:Obj:=tu [(r 31)]
def o21(P:Params):Obj:=di [(de P "__module__" 221 (.str "fivefields.errors" 194)),(de P "__qualname__" 223 (.str "NoDay" 222)),(de P "__firstlineno__" 225 (.int 7 224)),(de P "__static_attributes__" 226 (r 42))] 4
def o22:Obj:=co [(.str "NoDay" 216),(.str "NoDay" 217),(sf 218),(i 7),(i 0),(i 0),(i 0),(i 0),(r 38),(.bool false),(i 181),(r 39),.none,.none,.none,.none,(i 219),(i 7),(sf 220)]
def o23:Obj:=⟨(.type "frame"),none,.plain,#[(some (r 40)),(some (r 3)),(some (r 37)),none,(some (.str "fivefields.errors" 194)),none,(some (r 0))]⟩
def o24(P:Params):Obj:=di [(de P "__module__" 221 (.str "fivefields.errors" 194)),(de P "__firstlineno__" 225 (.int 7 224)),(de P "__static_attributes__" 226 (r 42)),(de P "__doc__" 227 .none)] 2
def o25:Obj:=⟨(.type "type"),none,(.cls ⟨"NoDay",[(r 31)],[(r 44),(r 31),(.type "ValueError"),(.type "Exception"),(.type "BaseException"),(.type "object")],43,"NoDay",true,[],[],false,none,false⟩),#[(some (r 35)),none,(some (.str "NoDay" 214)),(some (.str "NoDay" 222)),(some (.builtin "ValueError.__new__")),(some (.bool true))]⟩
def o26:Obj:=⟨(.type "super"),none,(.fields #[(r 44),(r 44),(r 44)]),#[]⟩
def o27:Obj:=⟨(.type "builtin_function_or_method"),none,(.fields #[(.builtin "object.__init_subclass__"),(r 44)]),#[]⟩
def o28(P:Params):Obj:=di [(de P "__module__" 237 (.str "fivefields.errors" 194)),(de P "__qualname__" 239 (.str "NoField" 238)),(de P "__firstlineno__" 241 (.int 9 240)),(de P "__init__" 249 (r 60)),(de P "__static_attributes__" 251 (r 61))] 5
def o29:Obj:=fd [(i 11),(i 4),(r 59)]
def o30:Obj:=co [(.str "NoField" 232),(.str "NoField" 233),(sf 234),(i 9),(i 0),(i 0),(i 0),(i 0),(r 50),(.bool false),(i 181),(r 51),.none,.none,.none,.none,(i 235),(i 9),(sf 236)]
def o31:Obj:=⟨(.type "frame"),none,.plain,#[(some (r 52)),(some (r 3)),(some (r 49)),none,(some (.str "fivefields.errors" 194)),none,(some (r 0))]⟩
def o32:Obj:=tu [(.str "self" 245),(.str "at" 246)]
def o33:Obj:=fz "__init__" "NoField.__init__" (ib (tp 4) 0)
def o34:Obj:=co [(.str "__init__" 242),(.str "NoField.__init__" 243),(sf 244),(i 11),(i 2),(i 0),(i 0),(i 3),(r 54),(.bool true),(i 181),(r 55),.none,(r 56),(r 57),(r 58),(i 247),(i 11),(sf 248)]
def o35:Obj:=fn "__init__" "NoField.__init__" (ib (tp 4) 0) 3 [] .none .none .none (.str "fivefields.errors" 194) none (r 59) .none 0
def o36:Obj:=tu [(.str "at" 250)]
def o37(P:Params):Obj:=di [(de P "__module__" 237 (.str "fivefields.errors" 194)),(de P "__firstlineno__" 241 (.int 9 240)),(de P "__init__" 249 (r 60)),(de P "__static_attributes__" 251 (r 61)),(de P "__doc__" 252 .none)] 2
def o38:Obj:=⟨(.type "type"),none,(.cls ⟨"NoField",[(r 31)],[(r 63),(r 31),(.type "ValueError"),(.type "Exception"),(.type "BaseException"),(.type "object")],62,"NoField",true,[],[],false,none,false⟩),#[(some (r 47)),none,(some (.str "NoField" 230)),(some (.str "NoField" 238)),(some (.builtin "ValueError.__new__")),(some (.bool true))]⟩
def o39:Obj:=⟨(.type "super"),none,(.fields #[(r 63),(r 63),(r 63)]),#[]⟩
def o40:Obj:=⟨(.type "builtin_function_or_method"),none,(.fields #[(.builtin "object.__init_subclass__"),(r 63)]),#[]⟩
def o41(P:Params):Obj:=di [(de P "__module__" 262 (.str "fivefields.errors" 194)),(de P "__qualname__" 264 (.str "NoRow" 263)),(de P "__firstlineno__" 266 (.int 13 265)),(de P "__init__" 274 (r 79)),(de P "__static_attributes__" 276 (r 80))] 5
def o42:Obj:=fd [(i 15),(i 4),(r 78)]
def o43:Obj:=co [(.str "NoRow" 257),(.str "NoRow" 258),(sf 259),(i 13),(i 0),(i 0),(i 0),(i 0),(r 69),(.bool false),(i 181),(r 70),.none,.none,.none,.none,(i 260),(i 13),(sf 261)]
def o44:Obj:=⟨(.type "frame"),none,.plain,#[(some (r 71)),(some (r 3)),(some (r 68)),none,(some (.str "fivefields.errors" 194)),none,(some (r 0))]⟩
def o45:Obj:=tu [(.str "self" 270),(.str "place" 271)]
def o46:Obj:=fz "__init__" "NoRow.__init__" (ib (tp 5) 0)
def o47:Obj:=co [(.str "__init__" 267),(.str "NoRow.__init__" 268),(sf 269),(i 15),(i 2),(i 0),(i 0),(i 3),(r 73),(.bool true),(i 181),(r 74),.none,(r 75),(r 76),(r 77),(i 272),(i 15),(sf 273)]
def o48:Obj:=fn "__init__" "NoRow.__init__" (ib (tp 5) 0) 3 [] .none .none .none (.str "fivefields.errors" 194) none (r 78) .none 0
def o49:Obj:=tu [(.str "place" 275)]
def o50(P:Params):Obj:=di [(de P "__module__" 262 (.str "fivefields.errors" 194)),(de P "__firstlineno__" 266 (.int 13 265)),(de P "__init__" 274 (r 79)),(de P "__static_attributes__" 276 (r 80)),(de P "__doc__" 277 .none)] 2
def o51:Obj:=⟨(.type "type"),none,(.cls ⟨"NoRow",[(r 31)],[(r 82),(r 31),(.type "ValueError"),(.type "Exception"),(.type "BaseException"),(.type "object")],81,"NoRow",true,[],[],false,none,false⟩),#[(some (r 66)),none,(some (.str "NoRow" 255)),(some (.str "NoRow" 263)),(some (.builtin "ValueError.__new__")),(some (.bool true))]⟩
def o52:Obj:=⟨(.type "super"),none,(.fields #[(r 82),(r 82),(r 82)]),#[]⟩
def o53:Obj:=⟨(.type "builtin_function_or_method"),none,(.fields #[(.builtin "object.__init_subclass__"),(r 82)]),#[]⟩
def o54:Obj:=tu [(.str "thing" 285)]
def o55:Obj:=fz "is_whole" "is_whole" (tp 7)
def o56:Obj:=co [(.str "is_whole" 282),(.str "is_whole" 283),(sf 284),(i 18),(i 1),(i 0),(i 0),(i 3),(r 85),(.bool true),(i 181),(r 86),.none,(r 87),(r 88),(r 89),(i 286),(i 18),(sf 287)]
def o57:Obj:=fn "is_whole" "is_whole" (tp 7) 3 [] .none .none .none (.str "fivefields.wholes" 280) none (r 90) .none 0
def o58:Obj:=tu [(.int 31 291),(.int 28 292),(.int 31 293),(.int 30 294),(.int 31 295),(.int 30 296),(.int 31 297),(.int 31 298),(.int 30 299),(.int 31 300),(.int 30 301),(.int 31 302)]
def o59:Obj:=tu [(.str "year" 311)]
def o60:Obj:=fz "is_long" "is_long" (tp 12)
def o61:Obj:=co [(.str "is_long" 308),(.str "is_long" 309),(sf 310),(i 24),(i 1),(i 0),(i 0),(i 3),(r 93),(.bool true),(i 181),(r 94),.none,(r 95),(r 96),(r 97),(i 312),(i 24),(sf 313)]
def o62:Obj:=fn "is_long" "is_long" (tp 12) 3 [] .none .none .none (.str "fivefields.days" 289) none (r 98) .none 0
def o63:Obj:=tu [(.str "year" 318),(.str "step" 319)]
def o64:Obj:=fz "multiples_before" "multiples_before" (tp 13)
def o65:Obj:=co [(.str "multiples_before" 315),(.str "multiples_before" 316),(sf 317),(i 26),(i 2),(i 0),(i 0),(i 3),(r 100),(.bool true),(i 181),(r 101),.none,(r 102),(r 103),(r 104),(i 320),(i 26),(sf 321)]
def o66:Obj:=fn "multiples_before" "multiples_before" (tp 13) 3 [] .none .none .none (.str "fivefields.days" 289) none (r 105) .none 0
def o67:Obj:=tu [(.str "year" 326),(.str "longs" 327)]
def o68:Obj:=fz "days_before" "days_before" (tp 14)
def o69:Obj:=co [(.str "days_before" 323),(.str "days_before" 324),(sf 325),(i 28),(i 1),(i 0),(i 0),(i 3),(r 107),(.bool true),(i 181),(r 108),.none,(r 109),(r 110),(r 111),(i 328),(i 28),(sf 329)]
def o70:Obj:=fn "days_before" "days_before" (tp 14) 3 [] .none .none .none (.str "fivefields.days" 289) none (r 112) .none 0
def o71:Obj:=tu [(.str "year" 334),(.str "month" 335)]
def o72:Obj:=fz "last_of" "last_of" (tp 15)
def o73:Obj:=co [(.str "last_of" 331),(.str "last_of" 332),(sf 333),(i 31),(i 2),(i 0),(i 0),(i 3),(r 114),(.bool true),(i 181),(r 115),.none,(r 116),(r 117),(r 118),(i 336),(i 31),(sf 337)]
def o74:Obj:=fn "last_of" "last_of" (tp 15) 3 [] .none .none .none (.str "fivefields.days" 289) none (r 119) .none 0
def o75:Obj:=tu [(.str "year" 342),(.str "month" 343),(.str "day" 344)]
def o76:Obj:=fz "is_date" "is_date" (tp 16)
def o77:Obj:=co [(.str "is_date" 339),(.str "is_date" 340),(sf 341),(i 35),(i 3),(i 0),(i 0),(i 3),(r 121),(.bool true),(i 181),(r 122),.none,(r 123),(r 124),(r 125),(i 345),(i 35),(sf 346)]
def o78:Obj:=fn "is_date" "is_date" (tp 16) 3 [] .none .none .none (.str "fivefields.days" 289) none (r 126) .none 0
def o79:Obj:=fz "day_of" "day_of" (tp 17)
def o80:Obj:=co [(.str "day_of" 348),(.str "day_of" 349),(sf 350),(i 39),(i 3),(i 0),(i 0),(i 3),(r 128),(.bool true),(i 181),(r 129),.none,.none,.none,(r 130),(i 351),(i 39),(sf 352)]
def o81:Obj:=fn "day_of" "day_of" (tp 17) 3 [] .none .none .none (.str "fivefields.days" 289) none (r 131) .none 0
def o82:Obj:=tu [(.str "day" 357),(.str "year" 358)]
def o83:Obj:=fz "year_of" "year_of" (tp 18)
def o84:Obj:=co [(.str "year_of" 354),(.str "year_of" 355),(sf 356),(i 44),(i 1),(i 0),(i 0),(i 3),(r 133),(.bool true),(i 181),(r 134),.none,(r 135),(r 136),(r 137),(i 359),(i 44),(sf 360)]
def o85:Obj:=fn "year_of" "year_of" (tp 18) 3 [] .none .none .none (.str "fivefields.days" 289) none (r 138) .none 0
def o86:Obj:=tu [(.str "day" 365),(.str "year" 366),(.str "month" 367),(.str "rest" 368)]
def o87:Obj:=fz "date_of" "date_of" (tp 19)
def o88:Obj:=co [(.str "date_of" 362),(.str "date_of" 363),(sf 364),(i 49),(i 1),(i 0),(i 0),(i 3),(r 140),(.bool true),(i 181),(r 141),.none,(r 142),(r 143),(r 144),(i 369),(i 49),(sf 370)]
def o89:Obj:=fn "date_of" "date_of" (tp 19) 3 [] .none .none .none (.str "fivefields.days" 289) none (r 145) .none 0
def o90:Obj:=tu [(.str "day" 375)]
def o91:Obj:=fz "weekday" "weekday" (tp 20)
def o92:Obj:=co [(.str "weekday" 372),(.str "weekday" 373),(sf 374),(i 57),(i 1),(i 0),(i 0),(i 3),(r 147),(.bool true),(i 181),(r 148),.none,(r 149),(r 150),(r 151),(i 376),(i 57),(sf 377)]
def o93:Obj:=fn "weekday" "weekday" (tp 20) 3 [] .none .none .none (.str "fivefields.days" 289) none (r 152) .none 0
def o94:Obj:=fz "all_figures" "all_figures" (tp 23)
def o95:Obj:=co [(.str "all_figures" 383),(.str "all_figures" 384),(sf 385),(i 61),(i 1),(i 0),(i 0),(i 3),(r 154),(.bool true),(i 181),(r 155),.none,.none,.none,(r 156),(i 386),(i 61),(sf 387)]
def o96:Obj:=fn "all_figures" "all_figures" (tp 23) 3 [] .none .none .none (.str "fivefields.figures" 379) none (r 157) .none 0
def o97:Obj:=tu [(.str "text" 392)]
def o98:Obj:=fz "is_written" "is_written" (tp 24)
def o99:Obj:=co [(.str "is_written" 389),(.str "is_written" 390),(sf 391),(i 63),(i 1),(i 0),(i 0),(i 3),(r 159),(.bool true),(i 181),(r 160),.none,(r 161),(r 162),(r 163),(i 393),(i 63),(sf 394)]
def avX:Obj:=fn "is_written" "is_written" (tp 24) 3 [] .none .none .none (.str "fivefields.figures" 379) none (r 164) .none 0
def aw8:Obj:=tu [(.str "mask" 401),(.str "number" 402)]
def av8:Obj:=fz "has" "has" (tp 26)
def avQ:Obj:=co [(.str "has" 398),(.str "has" 399),(sf 400),(i 66),(i 2),(i 0),(i 0),(i 3),(r 166),(.bool true),(i 181),(r 167),.none,(r 168),(r 169),(r 170),(i 403),(i 66),(sf 404)]
def auT:Obj:=fn "has" "has" (tp 26) 3 [] .none .none .none (.str "fivefields.ranges" 396) none (r 171) .none 0
def av4:Obj:=fz "starts_of" "starts_of" (tp 27)
def axE:Obj:=co [(.str "starts_of" 406),(.str "starts_of" 407),(sf 408),(i 68),(i 1),(i 0),(i 0),(i 3),(r 173),(.bool true),(i 181),(r 174),.none,.none,.none,(r 175),(i 409),(i 68),(sf 410)]
def at9:Obj:=fn "starts_of" "starts_of" (tp 27) 3 [] .none .none .none (.str "fivefields.ranges" 396) none (r 176) .none 0
def awJ:Obj:=tu [(.str "mask" 415),(.str "start" 416),(.str "end" 417)]
def aw6:Obj:=fz "end_from" "end_from" (tp 28)
def auW:Obj:=co [(.str "end_from" 412),(.str "end_from" 413),(sf 414),(i 71),(i 2),(i 0),(i 0),(i 3),(r 178),(.bool true),(i 181),(r 179),.none,(r 180),(r 181),(r 182),(i 418),(i 71),(sf 419)]
def at3:Obj:=fn "end_from" "end_from" (tp 28) 3 [] .none .none .none (.str "fivefields.ranges" 396) none (r 183) .none 0
def auM:Obj:=fz "ranges_of" "ranges_of" (tp 29)
def au2:Obj:=co [(.str "ranges_of" 421),(.str "ranges_of" 422),(sf 423),(i 76),(i 1),(i 0),(i 0),(i 3),(r 185),(.bool true),(i 181),(r 186),.none,.none,.none,(r 187),(i 424),(i 76),(sf 425)]
def axR:Obj:=fn "ranges_of" "ranges_of" (tp 29) 3 [] .none .none .none (.str "fivefields.ranges" 396) none (r 188) .none 0
def av0:Obj:=tu [(.str "first" 430),(.str "last" 431)]
def avG:Obj:=fz "shown_range" "shown_range" (tp 30)
def ax4:Obj:=co [(.str "shown_range" 427),(.str "shown_range" 428),(sf 429),(i 78),(i 2),(i 0),(i 0),(i 3),(r 190),(.bool true),(i 181),(r 191),.none,(r 192),(r 193),(r 194),(i 432),(i 78),(sf 433)]
def au4:Obj:=fn "shown_range" "shown_range" (tp 30) 3 [] .none .none .none (.str "fivefields.ranges" 396) none (r 195) .none 0
def avP:Obj:=fz "shown_ranges" "shown_ranges" (tp 31)
def axN:Obj:=co [(.str "shown_ranges" 435),(.str "shown_ranges" 436),(sf 437),(i 82),(i 1),(i 0),(i 0),(i 3),(r 197),(.bool true),(i 181),(r 198),.none,.none,.none,(r 199),(i 438),(i 82),(sf 439)]
def aw0:Obj:=fn "shown_ranges" "shown_ranges" (tp 31) 3 [] .none .none .none (.str "fivefields.ranges" 396) none (r 200) .none 0
def avW:Obj:=tu [(.str "numbers" 452),(.str "mask" 453),(.str "number" 454)]
def ax3:Obj:=fz "mask_of" "mask_of" (tp 36)
def awG:Obj:=co [(.str "mask_of" 449),(.str "mask_of" 450),(sf 451),(i 88),(i 1),(i 0),(i 0),(i 3),(r 202),(.bool true),(i 181),(r 203),.none,(r 204),(r 205),(r 206),(i 455),(i 88),(sf 456)]
def awW:Obj:=fn "mask_of" "mask_of" (tp 36) 3 [] .none .none .none (.str "fivefields.fields" 441) none (r 207) .none 0
def awI:Obj:=fz "numbers_in" "numbers_in" (tp 37)
def au8:Obj:=co [(.str "numbers_in" 458),(.str "numbers_in" 459),(sf 460),(i 93),(i 1),(i 0),(i 0),(i 3),(r 209),(.bool true),(i 181),(r 210),.none,.none,.none,(r 211),(i 461),(i 93),(sf 462)]
def av3:Obj:=fn "numbers_in" "numbers_in" (tp 37) 3 [] .none .none .none (.str "fivefields.fields" 441) none (r 212) .none 0
def awV:Obj:=tu [(.str "first" 467),(.str "last" 468),(.str "stride" 469)]
def auO:Obj:=fz "run_mask" "run_mask" (tp 38)
def awN:Obj:=co [(.str "run_mask" 464),(.str "run_mask" 465),(sf 466),(i 95),(i 3),(i 0),(i 0),(i 3),(r 214),(.bool true),(i 181),(r 215),.none,(r 216),(r 217),(r 218),(i 470),(i 95),(sf 471)]
def awY:Obj:=fn "run_mask" "run_mask" (tp 38) 3 [] .none .none .none (.str "fivefields.fields" 441) none (r 219) .none 0
def axB:Obj:=tu [(.str "text" 476),(.str "low" 477),(.str "high" 478),(.str "number" 479)]
def avM:Obj:=fz "read_number" "read_number" (tp 39)
def aw1:Obj:=co [(.str "read_number" 473),(.str "read_number" 474),(sf 475),(i 97),(i 3),(i 0),(i 0),(i 3),(r 221),(.bool true),(i 181),(r 222),.none,(r 223),(r 224),(r 225),(i 480),(i 97),(sf 481)]
def axM:Obj:=fn "read_number" "read_number" (tp 39) 3 [] .none .none .none (.str "fivefields.fields" 441) none (r 226) .none 0
def au0:Obj:=fz "read_run" "read_run" (tp 40)
def axQ:Obj:=co [(.str "read_run" 483),(.str "read_run" 484),(sf 485),(i 104),(i 3),(i 0),(i 0),(i 3),(r 228),(.bool true),(i 181),(r 229),.none,.none,.none,(r 230),(i 486),(i 104),(sf 487)]
def avA:Obj:=fn "read_run" "read_run" (tp 40) 3 [] .none .none .none (.str "fivefields.fields" 441) none (r 231) .none 0
def auE:Obj:=tu [(.str "run_text" 492),(.str "stride_text" 493),(.str "low" 494),(.str "high" 495),(.str "run" 496),(.str "stride" 497),(.str "last" 498)]
def ax6:Obj:=fz "read_strided" "read_strided" (tp 41)
def avR:Obj:=co [(.str "read_strided" 489),(.str "read_strided" 490),(sf 491),(i 111),(i 4),(i 0),(i 0),(i 3),(r 233),(.bool true),(i 181),(r 234),.none,(r 235),(r 236),(r 237),(i 499),(i 111),(sf 500)]
def axO:Obj:=fn "read_strided" "read_strided" (tp 41) 3 [] .none .none .none (.str "fivefields.fields" 441) none (r 238) .none 0
def auK:Obj:=tu [(.str "item" 505),(.str "low" 506),(.str "high" 507),(.str "parts" 508),(.str "run" 509)]
def avK:Obj:=fz "read_item" "read_item" (tp 42)
def at6:Obj:=co [(.str "read_item" 502),(.str "read_item" 503),(sf 504),(i 118),(i 3),(i 0),(i 0),(i 3),(r 240),(.bool true),(i 181),(r 241),.none,(r 242),(r 243),(r 244),(i 510),(i 118),(sf 511)]
def aw2:Obj:=fn "read_item" "read_item" (tp 42) 3 [] .none .none .none (.str "fivefields.fields" 441) none (r 245) .none 0
def auC:Obj:=tu [(.str "text" 516),(.str "low" 517),(.str "high" 518),(.str "items" 519),(.str "mask" 520),(.str "place" 521),(.str "item" 522),(.str "told" 523)]
def ax2:Obj:=fz "read_field" "read_field" (tp 43)
def ax0:Obj:=co [(.str "read_field" 513),(.str "read_field" 514),(sf 515),(i 126),(i 3),(i 0),(i 0),(i 3),(r 247),(.bool true),(i 181),(r 248),.none,(r 249),(r 250),(r 251),(i 524),(i 126),(sf 525)]
def avV:Obj:=fn "read_field" "read_field" (tp 43) 3 [] .none .none .none (.str "fivefields.fields" 441) none (r 252) .none 0
def auR:Obj:=tu [(.str "day" 548),(.str "first" 549)]
def av7:Obj:=fz "weekday_at" "weekday_at" (tp 53)
def auG:Obj:=co [(.str "weekday_at" 545),(.str "weekday_at" 546),(sf 547),(i 148),(i 2),(i 0),(i 0),(i 3),(r 254),(.bool true),(i 181),(r 255),.none,(r 256),(r 257),(r 258),(i 550),(i 148),(sf 551)]
def axU:Obj:=fn "weekday_at" "weekday_at" (tp 53) 3 [] .none .none .none (.str "fivefields.marks" 527) none (r 259) .none 0
def awF:Obj:=tu [(.str "last" 556)]
def au1:Obj:=fz "all_days" "all_days" (tp 54)
def avF:Obj:=co [(.str "all_days" 553),(.str "all_days" 554),(sf 555),(i 150),(i 1),(i 0),(i 0),(i 3),(r 261),(.bool true),(i 181),(r 262),.none,(r 263),(r 264),(r 265),(i 557),(i 150),(sf 558)]
def awT:Obj:=fn "all_days" "all_days" (tp 54) 3 [] .none .none .none (.str "fivefields.marks" 527) none (r 266) .none 0
def awQ:Obj:=tu [(.str "day" 563),(.str "last" 564),(.str "first" 565),(.str "of_week" 566)]
def axT:Obj:=fz "nearest_work" "nearest_work" (tp 55)
def at8:Obj:=co [(.str "nearest_work" 560),(.str "nearest_work" 561),(sf 562),(i 152),(i 3),(i 0),(i 0),(i 3),(r 268),(.bool true),(i 181),(r 269),.none,(r 270),(r 271),(r 272),(i 567),(i 152),(sf 568)]
def avU:Obj:=fn "nearest_work" "nearest_work" (tp 55) 3 [] .none .none .none (.str "fivefields.marks" 527) none (r 273) .none 0
def t1(P:Params):BT:=(nd (boot_o_0 P) (nd (boot_o_1 P) (nd (o4 P) (nd (boot_o_7 P) (nd o0 (nd o16 (nd o38 (nd o78 (lf o1) .nil) (lf o1)) (nd o59 (lf o0) (lf axB))) (nd o20 (nd o48 (nd o0 (lf o0) .nil) (lf awG)) (nd o68 (lf av4) (lf axO)))) (nd o11 (nd o1 (nd o43 (nd o82 (lf awF) .nil) (lf avP)) (nd o0 (lf o1) (lf axQ))) (nd o1 (nd o54 (lf o91) (lf o1)) (nd o73 (lf auW) (lf o0))))) (nd o0 (nd o7 (nd o20 (nd o11 (nd o80 (lf auG) .nil) (lf ax4)) (nd o62 (lf o98) (lf axM))) (nd o29 (nd o52 (lf o0) (lf awI)) (nd o1 (lf o1) (lf o0)))) (nd o13 (nd (o24 P) (nd o45 (nd o85 (lf awT) .nil) (lf o1)) (nd o0 (lf avQ) (lf auE))) (nd o34 (nd o57 (lf o1) (lf awN)) (nd o75 (lf auM) (lf ax2)))))) (nd (boot_o_5 P) (nd (boot_o_9 P) (nd o6 (nd o18 (nd o40 (nd o1 (lf o0) .nil) (lf o0)) (nd o60 (lf o97) (lf avM))) (nd (o28 P) (nd (o50 P) (nd o88 (lf at8) .nil) (lf o0)) (nd o70 (lf at9) (lf o1)))) (nd o0 (nd o23 (nd o0 (nd o83 (lf au1) .nil) (lf aw0)) (nd o65 (lf o0) (lf o0))) (nd o0 (nd o55 (lf o93) (lf o0)) (nd o0 (lf o0) (lf auC))))) (nd o2 (nd o9 (nd (o21 P) (nd o0 (nd o0 (lf o0) .nil) (lf o0)) (nd o1 (lf avX) (lf o1))) (nd o31 (nd o0 (lf o90) (lf av3)) (nd o0 (lf o0) (lf at6)))) (nd o0 (nd o26 (nd o46 (nd o1 (lf o1) .nil) (lf o0)) (nd o67 (lf o0) (lf ax6))) (nd o36 (nd o0 (lf o95) (lf o0)) (nd o76 (lf axR) (lf avV))))))) (nd (boot_o_2 P) (nd (boot_o_4 P) (nd (boot_o_8 P) (nd o1 (nd o17 (nd o39 (nd o0 (lf auR) .nil) (lf av0)) (nd o0 (lf o1) (lf o0))) (nd o11 (nd o49 (nd o87 (lf axT) .nil) (lf awW)) (nd o69 (lf axE) (lf o0)))) (nd (o12 P) (nd o22 (nd o44 (nd o0 (lf o0) .nil) (lf axN)) (nd o64 (lf aw8) (lf avA))) (nd o32 (nd o0 (lf o92) (lf awV)) (nd o74 (lf at3) (lf o1))))) (nd o5 (nd o8 (nd o11 (nd (o41 P) (nd o81 (lf axU) .nil) (lf au4)) (nd o0 (lf o99) (lf o0))) (nd o30 (nd o53 (lf o1) (lf au8)) (nd o71 (lf awJ) (lf avK)))) (nd o14 (nd o25 (nd o0 (nd o0 (lf o0) .nil) (lf avW)) (nd o1 (lf auT) (lf o0))) (nd o35 (nd o58 (lf o94) (lf awY)) (nd o0 (lf au2) (lf ax0)))))) (nd (boot_o_6 P) (nd (boot_o_10 P) (nd o0 (nd o19 (nd o20 (nd o79 (lf av7) .nil) (lf avG)) (nd o61 (lf o0) (lf aw1))) (nd o0 (nd o51 (nd o89 (lf avU) .nil) (lf o1)) (nd o0 (lf o0) (lf auK)))) (nd o1 (nd o0 (nd o1 (nd o84 (lf avF) .nil) (lf o0)) (nd o66 (lf av8) (lf o1))) (nd o33 (nd o56 (lf o0) (lf auO)) (nd o1 (lf o1) (lf o0))))) (nd o3 (nd o10 (nd o0 (nd o42 (nd o1 (lf o1) .nil) (lf o1)) (nd o63 (lf o0) (lf au0))) (nd o0 (nd o1 (lf o0) (lf o0)) (nd o72 (lf aw6) (lf aw2)))) (nd (o15 P) (nd o27 (nd o47 (nd o86 (lf awQ) .nil) (lf ax3)) (nd o0 (lf o1) (lf avR))) (nd (o37 P) (nd o1 (lf o96) (lf o1)) (nd o77 (lf o0) (lf o0))))))))
def s1(w:World)(os:OsState):SharedT:=⟨t1 w.params,275,⟨[],[],[],0,[],[],false,#[],[],0,false,false,false,0,[2000,10,10],false,0,true,[],[],0,false⟩,#[],⟨0,0,0,0⟩,570,os⟩
def l0:List Stmt:=(bi.drop 0).take 56
theorem r0(w:World)(os:OsState):
  segRunT treeTable pw w 11 an 1 1991 (s0 w os) (piecesOf l0 ev cd ⟨0,0,0,0⟩ bk) =
  some (.next,s1 w os,cd,⟨152,0,158,14⟩):=by kernel_rfl
def o164(P:Params):Obj:=di [(de P "__name__" 165 (.str "fivefields.marks" 527)),(de P "__doc__" 166 .none),(de P "__package__" 167 .none),(de P "__loader__" 168 (.builtin "__main__.__loader__#opaque")),(de P "__spec__" 169 .none),(de P "__annotations__" 170 (r 6)),(de P "__builtins__" 171 (r 4)),(de P "__file__" 173 (sf 172)),(de P "__cached__" 174 .none),(de P "_wall" 193 (r 21)),(de P "FieldError" 213 (r 31)),(de P "NoDay" 229 (r 44)),(de P "NoField" 254 (r 63)),(de P "NoRow" 279 (r 82)),(de P "is_whole" 288 (r 91)),(de P "MONTH_LASTS" 303 (r 92)),(de P "ROUND_YEARS" 305 (.int 400 304)),(de P "ROUND_DAYS" 307 (.int 146097 306)),(de P "is_long" 314 (r 99)),(de P "multiples_before" 322 (r 106)),(de P "days_before" 330 (r 113)),(de P "last_of" 338 (r 120)),(de P "is_date" 347 (r 127)),(de P "day_of" 353 (r 132)),(de P "year_of" 361 (r 139)),(de P "date_of" 371 (r 146)),(de P "weekday" 378 (r 153)),(de P "FIGURES" 382 (.str "0123456789" 381)),(de P "all_figures" 388 (r 158)),(de P "is_written" 395 (r 165)),(de P "has" 405 (r 172)),(de P "starts_of" 411 (r 177)),(de P "end_from" 420 (r 184)),(de P "ranges_of" 426 (r 189)),(de P "shown_range" 434 (r 196)),(de P "shown_ranges" 440 (r 201)),(de P "MOST_SIGNS" 444 (.int 300 443)),(de P "MOST_ITEMS" 446 (.int 40 445)),(de P "MOST_STRIDE" 448 (.int 99 447)),(de P "mask_of" 457 (r 208)),(de P "numbers_in" 463 (r 213)),(de P "run_mask" 472 (r 220)),(de P "read_number" 482 (r 227)),(de P "read_run" 488 (r 232)),(de P "read_strided" 501 (r 239)),(de P "read_item" 512 (r 246)),(de P "read_field" 526 (r 253)),(de P "MOST_MARKS" 530 (.int 20 529)),(de P "MOST_DAY" 532 (.int 31 531)),(de P "MOST_BACK" 534 (.int 30 533)),(de P "MOST_NTH" 536 (.int 5 535)),(de P "SUNDAY" 538 (.int 0 537)),(de P "SATURDAY" 540 (.int 6 539)),(de P "SUNDAY_TOO" 542 (.int 7 541)),(de P "ALL_WEEKDAYS" 544 (.int 127 543)),(de P "weekday_at" 552 (r 260)),(de P "all_days" 559 (r 267)),(de P "nearest_work" 569 (r 274)),(de P "first_one" 577 (r 281)),(de P "Mark" 613 (r 305)),(de P "Numbers" 654 (r 340)),(de P "Last" 696 (r 374)),(de P "Near" 737 (r 407)),(de P "LastWork" 769 (r 433)),(de P "Weekdays" 812 (r 466))] 65
def o165:Obj:=fd [(i 1),(i 0),(r 20),(i 5),(i 0),(r 27),(i 7),(i 0),(r 40),(i 9),(i 0),(r 52),(i 13),(i 0),(r 71),(i 18),(i 0),(r 90),(i 24),(i 0),(r 98),(i 26),(i 0),(r 105),(i 28),(i 0),(r 112),(i 31),(i 0),(r 119),(i 35),(i 0),(r 126),(i 39),(i 0),(r 131),(i 44),(i 0),(r 138),(i 49),(i 0),(r 145),(i 57),(i 0),(r 152),(i 61),(i 0),(r 157),(i 63),(i 0),(r 164),(i 66),(i 0),(r 171),(i 68),(i 0),(r 176),(i 71),(i 0),(r 183),(i 76),(i 0),(r 188),(i 78),(i 0),(r 195),(i 82),(i 0),(r 200),(i 88),(i 0),(r 207),(i 93),(i 0),(r 212),(i 95),(i 0),(r 219),(i 97),(i 0),(r 226),(i 104),(i 0),(r 231),(i 111),(i 0),(r 238),(i 118),(i 0),(r 245),(i 126),(i 0),(r 252),(i 148),(i 0),(r 259),(i 150),(i 0),(r 266),(i 152),(i 0),(r 273),(i 159),(i 0),(r 280),(i 161),(i 0),(r 287),(i 168),(i 0),(r 315),(i 178),(i 0),(r 348),(i 192),(i 0),(r 382),(i 204),(i 0),(r 415),(i 211),(i 0),(r 441)]
def aCJ:Obj:=tu [(.str "weekday" 573),(.str "first" 574)]
def aBR:Obj:=fz "first_one" "first_one" (tp 56)
def azH:Obj:=co [(.str "first_one" 570),(.str "first_one" 571),(sf 572),(i 159),(i 2),(i 0),(i 0),(i 3),(r 275),(.bool true),(i 181),(r 276),.none,(r 277),(r 278),(r 279),(i 575),(i 159),(sf 576)]
def ayM:Obj:=fn "first_one" "first_one" (tp 56) 3 [] .none .none .none (.str "fivefields.marks" 527) none (r 280) .none 0
def aAO(P:Params):Obj:=di [(de P "__module__" 585 (.str "fivefields.marks" 527)),(de P "__qualname__" 587 (.str "Mark" 586)),(de P "__firstlineno__" 589 (.int 161 588)),(de P "days" 598 (r 295)),(de P "told" 605 (r 302)),(de P "__static_attributes__" 606 (r 303))] 6
def ayC:Obj:=fd [(i 163),(i 4),(r 294),(i 166),(i 4),(r 301)]
def aBT:Obj:=co [(.str "Mark" 580),(.str "Mark" 581),(sf 582),(i 161),(i 0),(i 0),(i 0),(i 0),(r 285),(.bool false),(i 181),(r 286),.none,.none,.none,.none,(i 583),(i 161),(sf 584)]
def aB9:Obj:=⟨(.type "frame"),none,.plain,#[(some (r 287)),(some (r 3)),(some (r 284)),none,(some (.str "fivefields.marks" 527)),none,(some (r 0))]⟩
def ayF:Obj:=tu [(.str "self" 593),(.str "last" 594),(.str "first" 595)]
def aBE:Obj:=fz "days" "Mark.days" (ib (tp 57) 0)
def az1:Obj:=co [(.str "days" 590),(.str "Mark.days" 591),(sf 592),(i 163),(i 3),(i 0),(i 0),(i 3),(r 289),(.bool true),(i 181),(r 290),.none,(r 291),(r 292),(r 293),(i 596),(i 163),(sf 597)]
def aAU:Obj:=fn "days" "Mark.days" (ib (tp 57) 0) 3 [] .none .none .none (.str "fivefields.marks" 527) none (r 294) .none 0
def aCO:Obj:=tu [(.str "self" 602)]
def aBF:Obj:=fz "told" "Mark.told" (ib (tp 57) 1)
def aCB:Obj:=co [(.str "told" 599),(.str "Mark.told" 600),(sf 601),(i 166),(i 1),(i 0),(i 0),(i 3),(r 296),(.bool true),(i 181),(r 297),.none,(r 298),(r 299),(r 300),(i 603),(i 166),(sf 604)]
def aCH:Obj:=fn "told" "Mark.told" (ib (tp 57) 1) 3 [] .none .none .none (.str "fivefields.marks" 527) none (r 301) .none 0
def azG(P:Params):Obj:=di [(de P "__module__" 585 (.str "fivefields.marks" 527)),(de P "__firstlineno__" 589 (.int 161 588)),(de P "days" 598 (r 295)),(de P "told" 605 (r 302)),(de P "__static_attributes__" 606 (r 303)),(de P "__dict__" 608 (r 306)),(de P "__weakref__" 610 (r 307)),(de P "__doc__" 611 .none)] 4
def o183:Obj:=⟨(.type "type"),none,(.cls ⟨"Mark",[(.type "object")],[(r 305),(.type "object")],304,"Mark",true,[],[(r 340),(r 374),(r 407),(r 433),(r 466)],false,none,false⟩),#[none,none,(some (.str "Mark" 578)),(some (.str "Mark" 586)),(some (.builtin "object.__new__")),(some (.bool true))]⟩
def aAI:Obj:=⟨(.type "getset_descriptor"),none,(.fields #[(.str "__dict__" 607),(r 305),(.builtin "function.__dict__"),(.builtin "function.__dict__#set")]),#[]⟩
def aAW:Obj:=⟨(.type "getset_descriptor"),none,(.fields #[(.str "__weakref__" 609),(r 305),(.builtin "ExceptionGroup.__weakref__"),.none]),#[]⟩
def aB2:Obj:=⟨(.type "super"),none,(.fields #[(r 305),(r 305),(r 305)]),#[]⟩
def ay8:Obj:=⟨(.type "builtin_function_or_method"),none,(.fields #[(.builtin "object.__init_subclass__"),(r 305)]),#[]⟩
def abP:Obj:=tu [(r 305)]
def azA(P:Params):Obj:=di [(de P "__module__" 621 (.str "fivefields.marks" 527)),(de P "__qualname__" 623 (.str "Numbers" 622)),(de P "__firstlineno__" 625 (.int 168 624)),(de P "__init__" 633 (r 323)),(de P "days" 642 (r 330)),(de P "told" 649 (r 337)),(de P "__static_attributes__" 651 (r 338))] 7
def az5:Obj:=fd [(i 170),(i 4),(r 322),(i 173),(i 4),(r 329),(i 176),(i 4),(r 336)]
def aCM:Obj:=co [(.str "Numbers" 616),(.str "Numbers" 617),(sf 618),(i 168),(i 0),(i 0),(i 0),(i 0),(r 313),(.bool false),(i 181),(r 314),.none,.none,.none,.none,(i 619),(i 168),(sf 620)]
def aA2:Obj:=⟨(.type "frame"),none,.plain,#[(some (r 315)),(some (r 3)),(some (r 312)),none,(some (.str "fivefields.marks" 527)),none,(some (r 0))]⟩
def aDI:Obj:=tu [(.str "self" 629),(.str "mask" 630)]
def ayY:Obj:=fz "__init__" "Numbers.__init__" (ib (tp 58) 0)
def az3:Obj:=co [(.str "__init__" 626),(.str "Numbers.__init__" 627),(sf 628),(i 170),(i 2),(i 0),(i 0),(i 3),(r 317),(.bool true),(i 181),(r 318),.none,(r 319),(r 320),(r 321),(i 631),(i 170),(sf 632)]
def aA1:Obj:=fn "__init__" "Numbers.__init__" (ib (tp 58) 0) 3 [] .none .none .none (.str "fivefields.marks" 527) none (r 322) .none 0
def aAB:Obj:=tu [(.str "self" 637),(.str "last" 638),(.str "first" 639)]
def ay4:Obj:=fz "days" "Numbers.days" (ib (tp 58) 1)
def aB4:Obj:=co [(.str "days" 634),(.str "Numbers.days" 635),(sf 636),(i 173),(i 3),(i 0),(i 0),(i 3),(r 324),(.bool true),(i 181),(r 325),.none,(r 326),(r 327),(r 328),(i 640),(i 173),(sf 641)]
def aC8:Obj:=fn "days" "Numbers.days" (ib (tp 58) 1) 3 [] .none .none .none (.str "fivefields.marks" 527) none (r 329) .none 0
def aAJ:Obj:=tu [(.str "self" 646)]
def aBL:Obj:=fz "told" "Numbers.told" (ib (tp 58) 2)
def azY:Obj:=co [(.str "told" 643),(.str "Numbers.told" 644),(sf 645),(i 176),(i 1),(i 0),(i 0),(i 3),(r 331),(.bool true),(i 181),(r 332),.none,(r 333),(r 334),(r 335),(i 647),(i 176),(sf 648)]
def aA7:Obj:=fn "told" "Numbers.told" (ib (tp 58) 2) 3 [] .none .none .none (.str "fivefields.marks" 527) none (r 336) .none 0
def az7:Obj:=tu [(.str "mask" 650)]
def aCP(P:Params):Obj:=di [(de P "__module__" 621 (.str "fivefields.marks" 527)),(de P "__firstlineno__" 625 (.int 168 624)),(de P "__init__" 633 (r 323)),(de P "days" 642 (r 330)),(de P "told" 649 (r 337)),(de P "__static_attributes__" 651 (r 338)),(de P "__doc__" 652 .none)] 2
def aCL:Obj:=⟨(.type "type"),none,(.cls ⟨"Numbers",[(r 305)],[(r 340),(r 305),(.type "object")],339,"Numbers",true,[],[],false,none,false⟩),#[(some (r 310)),none,(some (.str "Numbers" 614)),(some (.str "Numbers" 622)),(some (.builtin "object.__new__")),(some (.bool true))]⟩
def aCU:Obj:=⟨(.type "super"),none,(.fields #[(r 340),(r 340),(r 340)]),#[]⟩
def ayS:Obj:=⟨(.type "builtin_function_or_method"),none,(.fields #[(.builtin "object.__init_subclass__"),(r 340)]),#[]⟩
def aAP(P:Params):Obj:=di [(de P "__module__" 662 (.str "fivefields.marks" 527)),(de P "__qualname__" 664 (.str "Last" 663)),(de P "__firstlineno__" 666 (.int 178 665)),(de P "__init__" 675 (r 357)),(de P "days" 684 (r 364)),(de P "told" 691 (r 371)),(de P "__static_attributes__" 693 (r 372))] 7
def aC6:Obj:=fd [(i 180),(i 4),(r 356),(i 183),(i 4),(r 363),(i 188),(i 4),(r 370)]
def az2:Obj:=co [(.str "Last" 657),(.str "Last" 658),(sf 659),(i 178),(i 0),(i 0),(i 0),(i 0),(r 346),(.bool false),(i 181),(r 347),.none,.none,.none,.none,(i 660),(i 178),(sf 661)]
def aAN:Obj:=⟨(.type "frame"),none,.plain,#[(some (r 348)),(some (r 3)),(some (r 345)),none,(some (.str "fivefields.marks" 527)),none,(some (r 0))]⟩
def ayQ:Obj:=tu [(.int 0 667)]
def aA4:Obj:=tu [(.str "self" 671),(.str "back" 672)]
def aBS:Obj:=fz "__init__" "Last.__init__" (ib (tp 59) 0)
def aC4:Obj:=co [(.str "__init__" 668),(.str "Last.__init__" 669),(sf 670),(i 180),(i 2),(i 0),(i 0),(i 3),(r 351),(.bool true),(i 181),(r 352),.none,(r 353),(r 354),(r 355),(i 673),(i 180),(sf 674)]
def ax9:Obj:=fn "__init__" "Last.__init__" (ib (tp 59) 0) 3 [] (r 350) .none .none (.str "fivefields.marks" 527) none (r 356) .none 0
def aBH:Obj:=tu [(.str "self" 679),(.str "last" 680),(.str "first" 681)]
def aBA:Obj:=⟨.none,none,(.func ⟨"days","Last.days",(ag (ib (tp 59) 1)),(.stmts (bd (ib (tp 59) 1))),(sc (ib (tp 57) 0)),0,[],.none,.none,.none,.none,none,.none,.none,0⟩),#[]⟩
def azV:Obj:=co [(.str "days" 676),(.str "Last.days" 677),(sf 678),(i 183),(i 3),(i 0),(i 0),(i 3),(r 358),(.bool true),(i 181),(r 359),.none,(r 360),(r 361),(r 362),(i 682),(i 183),(sf 683)]
def ay6:Obj:=⟨(.type "function"),none,(.func ⟨"days","Last.days",(ag (ib (tp 59) 1)),(.stmts (bd (ib (tp 59) 1))),(sc (ib (tp 57) 0)),3,[],.none,.none,.none,(.str "fivefields.marks" 527),none,(r 363),.none,0⟩),#[]⟩
def ayX:Obj:=tu [(.str "self" 688)]
def aDC:Obj:=fz "told" "Last.told" (ib (tp 59) 2)
def ay1:Obj:=co [(.str "told" 685),(.str "Last.told" 686),(sf 687),(i 188),(i 1),(i 0),(i 0),(i 3),(r 365),(.bool true),(i 181),(r 366),.none,(r 367),(r 368),(r 369),(i 689),(i 188),(sf 690)]
def azP:Obj:=fn "told" "Last.told" (ib (tp 59) 2) 3 [] .none .none .none (.str "fivefields.marks" 527) none (r 370) .none 0
def aA5:Obj:=tu [(.str "back" 692)]
def aDG(P:Params):Obj:=di [(de P "__module__" 662 (.str "fivefields.marks" 527)),(de P "__firstlineno__" 666 (.int 178 665)),(de P "__init__" 675 (r 357)),(de P "days" 684 (r 364)),(de P "told" 691 (r 371)),(de P "__static_attributes__" 693 (r 372)),(de P "__doc__" 694 .none)] 2
def aBQ:Obj:=⟨(.type "type"),none,(.cls ⟨"Last",[(r 305)],[(r 374),(r 305),(.type "object")],373,"Last",true,[],[],false,none,false⟩),#[(some (r 343)),none,(some (.str "Last" 655)),(some (.str "Last" 663)),(some (.builtin "object.__new__")),(some (.bool true))]⟩
def aAV:Obj:=⟨(.type "super"),none,(.fields #[(r 374),(r 374),(r 374)]),#[]⟩
def aA6:Obj:=⟨(.type "builtin_function_or_method"),none,(.fields #[(.builtin "object.__init_subclass__"),(r 374)]),#[]⟩
def az6(P:Params):Obj:=di [(de P "__module__" 704 (.str "fivefields.marks" 527)),(de P "__qualname__" 706 (.str "Near" 705)),(de P "__firstlineno__" 708 (.int 192 707)),(de P "__init__" 716 (r 390)),(de P "days" 725 (r 397)),(de P "told" 732 (r 404)),(de P "__static_attributes__" 734 (r 405))] 7
def aB0:Obj:=fd [(i 194),(i 4),(r 389),(i 197),(i 4),(r 396),(i 202),(i 4),(r 403)]
def azT:Obj:=co [(.str "Near" 699),(.str "Near" 700),(sf 701),(i 192),(i 0),(i 0),(i 0),(i 0),(r 380),(.bool false),(i 181),(r 381),.none,.none,.none,.none,(i 702),(i 192),(sf 703)]
def aAE:Obj:=⟨(.type "frame"),none,.plain,#[(some (r 382)),(some (r 3)),(some (r 379)),none,(some (.str "fivefields.marks" 527)),none,(some (r 0))]⟩
def azU:Obj:=tu [(.str "self" 712),(.str "day" 713)]
def aBU:Obj:=fz "__init__" "Near.__init__" (ib (tp 60) 0)
def aB1:Obj:=co [(.str "__init__" 709),(.str "Near.__init__" 710),(sf 711),(i 194),(i 2),(i 0),(i 0),(i 3),(r 384),(.bool true),(i 181),(r 385),.none,(r 386),(r 387),(r 388),(i 714),(i 194),(sf 715)]
def aCF:Obj:=fn "__init__" "Near.__init__" (ib (tp 60) 0) 3 [] .none .none .none (.str "fivefields.marks" 527) none (r 389) .none 0
def aAK:Obj:=tu [(.str "self" 720),(.str "last" 721),(.str "first" 722)]
def az0:Obj:=fz "days" "Near.days" (ib (tp 60) 1)
def ayG:Obj:=co [(.str "days" 717),(.str "Near.days" 718),(sf 719),(i 197),(i 3),(i 0),(i 0),(i 3),(r 391),(.bool true),(i 181),(r 392),.none,(r 393),(r 394),(r 395),(i 723),(i 197),(sf 724)]
def ayO:Obj:=fn "days" "Near.days" (ib (tp 60) 1) 3 [] .none .none .none (.str "fivefields.marks" 527) none (r 396) .none 0
def ayL:Obj:=tu [(.str "self" 729)]
def aC2:Obj:=⟨.none,none,(.func ⟨"told","Near.told",(ag (ib (tp 60) 2)),(.stmts (bd (ib (tp 60) 2))),(sc (ib (tp 59) 2)),0,[],.none,.none,.none,.none,none,.none,.none,0⟩),#[]⟩
def ayU:Obj:=co [(.str "told" 726),(.str "Near.told" 727),(sf 728),(i 202),(i 1),(i 0),(i 0),(i 3),(r 398),(.bool true),(i 181),(r 399),.none,(r 400),(r 401),(r 402),(i 730),(i 202),(sf 731)]
def ayJ:Obj:=⟨(.type "function"),none,(.func ⟨"told","Near.told",(ag (ib (tp 60) 2)),(.stmts (bd (ib (tp 60) 2))),(sc (ib (tp 59) 2)),3,[],.none,.none,.none,(.str "fivefields.marks" 527),none,(r 403),.none,0⟩),#[]⟩
def aCR:Obj:=tu [(.str "day" 733)]
def aC3(P:Params):Obj:=di [(de P "__module__" 704 (.str "fivefields.marks" 527)),(de P "__firstlineno__" 708 (.int 192 707)),(de P "__init__" 716 (r 390)),(de P "days" 725 (r 397)),(de P "told" 732 (r 404)),(de P "__static_attributes__" 734 (r 405)),(de P "__doc__" 735 .none)] 2
def aBK:Obj:=⟨(.type "type"),none,(.cls ⟨"Near",[(r 305)],[(r 407),(r 305),(.type "object")],406,"Near",true,[],[],false,none,false⟩),#[(some (r 377)),none,(some (.str "Near" 697)),(some (.str "Near" 705)),(some (.builtin "object.__new__")),(some (.bool true))]⟩
def azK:Obj:=⟨(.type "super"),none,(.fields #[(r 407),(r 407),(r 407)]),#[]⟩
def aAG:Obj:=⟨(.type "builtin_function_or_method"),none,(.fields #[(.builtin "object.__init_subclass__"),(r 407)]),#[]⟩
def azZ(P:Params):Obj:=di [(de P "__module__" 745 (.str "fivefields.marks" 527)),(de P "__qualname__" 747 (.str "LastWork" 746)),(de P "__firstlineno__" 749 (.int 204 748)),(de P "days" 758 (r 423)),(de P "told" 765 (r 430)),(de P "__static_attributes__" 766 (r 431))] 6
def aB3:Obj:=fd [(i 206),(i 4),(r 422),(i 209),(i 4),(r 429)]
def az8:Obj:=co [(.str "LastWork" 740),(.str "LastWork" 741),(sf 742),(i 204),(i 0),(i 0),(i 0),(i 0),(r 413),(.bool false),(i 181),(r 414),.none,.none,.none,.none,(i 743),(i 204),(sf 744)]
def ayV:Obj:=⟨(.type "frame"),none,.plain,#[(some (r 415)),(some (r 3)),(some (r 412)),none,(some (.str "fivefields.marks" 527)),none,(some (r 0))]⟩
def aBB:Obj:=tu [(.str "self" 753),(.str "last" 754),(.str "first" 755)]
def aC7:Obj:=⟨.none,none,(.func ⟨"days","LastWork.days",(ag (ib (tp 61) 0)),(.stmts (bd (ib (tp 61) 0))),(sc (ib (tp 60) 1)),0,[],.none,.none,.none,.none,none,.none,.none,0⟩),#[]⟩
def az4:Obj:=co [(.str "days" 750),(.str "LastWork.days" 751),(sf 752),(i 206),(i 3),(i 0),(i 0),(i 3),(r 417),(.bool true),(i 181),(r 418),.none,(r 419),(r 420),(r 421),(i 756),(i 206),(sf 757)]
def aA9:Obj:=⟨(.type "function"),none,(.func ⟨"days","LastWork.days",(ag (ib (tp 61) 0)),(.stmts (bd (ib (tp 61) 0))),(sc (ib (tp 60) 1)),3,[],.none,.none,.none,(.str "fivefields.marks" 527),none,(r 422),.none,0⟩),#[]⟩
def azQ:Obj:=tu [(.str "self" 762)]
def ayH:Obj:=⟨.none,none,(.func ⟨"told","LastWork.told",(ag (ib (tp 61) 1)),(.stmts (bd (ib (tp 61) 1))),(sc (ib (tp 57) 1)),0,[],.none,.none,.none,.none,none,.none,.none,0⟩),#[]⟩
def ay2:Obj:=co [(.str "told" 759),(.str "LastWork.told" 760),(sf 761),(i 209),(i 1),(i 0),(i 0),(i 3),(r 424),(.bool true),(i 181),(r 425),.none,(r 426),(r 427),(r 428),(i 763),(i 209),(sf 764)]
def aA8:Obj:=⟨(.type "function"),none,(.func ⟨"told","LastWork.told",(ag (ib (tp 61) 1)),(.stmts (bd (ib (tp 61) 1))),(sc (ib (tp 57) 1)),3,[],.none,.none,.none,(.str "fivefields.marks" 527),none,(r 429),.none,0⟩),#[]⟩
def aBO(P:Params):Obj:=di [(de P "__module__" 745 (.str "fivefields.marks" 527)),(de P "__firstlineno__" 749 (.int 204 748)),(de P "days" 758 (r 423)),(de P "told" 765 (r 430)),(de P "__static_attributes__" 766 (r 431)),(de P "__doc__" 767 .none)] 2
def aBW:Obj:=⟨(.type "type"),none,(.cls ⟨"LastWork",[(r 305)],[(r 433),(r 305),(.type "object")],432,"LastWork",true,[],[],false,none,false⟩),#[(some (r 410)),none,(some (.str "LastWork" 738)),(some (.str "LastWork" 746)),(some (.builtin "object.__new__")),(some (.bool true))]⟩
def azC:Obj:=⟨(.type "super"),none,(.fields #[(r 433),(r 433),(r 433)]),#[]⟩
def aC9:Obj:=⟨(.type "builtin_function_or_method"),none,(.fields #[(.builtin "object.__init_subclass__"),(r 433)]),#[]⟩
def ayB(P:Params):Obj:=di [(de P "__module__" 777 (.str "fivefields.marks" 527)),(de P "__qualname__" 779 (.str "Weekdays" 778)),(de P "__firstlineno__" 781 (.int 211 780)),(de P "__init__" 789 (r 449)),(de P "days" 800 (r 456)),(de P "told" 807 (r 463)),(de P "__static_attributes__" 809 (r 464))] 7
def azD:Obj:=fd [(i 213),(i 4),(r 448),(i 216),(i 4),(r 455),(i 222),(i 4),(r 462)]
def aAY:Obj:=co [(.str "Weekdays" 772),(.str "Weekdays" 773),(sf 774),(i 211),(i 0),(i 0),(i 0),(i 0),(r 439),(.bool false),(i 181),(r 440),.none,.none,.none,.none,(i 775),(i 211),(sf 776)]
def aCV:Obj:=⟨(.type "frame"),none,.plain,#[(some (r 441)),(some (r 3)),(some (r 438)),none,(some (.str "fivefields.marks" 527)),none,(some (r 0))]⟩
def ayW:Obj:=tu [(.str "self" 785),(.str "mask" 786)]
def ayK:Obj:=⟨.none,none,(.func ⟨"__init__","Weekdays.__init__",(ag (ib (tp 62) 0)),(.stmts (bd (ib (tp 62) 0))),(sc (ib (tp 58) 0)),0,[],.none,.none,.none,.none,none,.none,.none,0⟩),#[]⟩
def azX:Obj:=co [(.str "__init__" 782),(.str "Weekdays.__init__" 783),(sf 784),(i 213),(i 2),(i 0),(i 0),(i 3),(r 443),(.bool true),(i 181),(r 444),.none,(r 445),(r 446),(r 447),(i 787),(i 213),(sf 788)]
def ayP:Obj:=⟨(.type "function"),none,(.func ⟨"__init__","Weekdays.__init__",(ag (ib (tp 62) 0)),(.stmts (bd (ib (tp 62) 0))),(sc (ib (tp 58) 0)),3,[],.none,.none,.none,(.str "fivefields.marks" 527),none,(r 448),.none,0⟩),#[]⟩
def aBY:Obj:=tu [(.str "self" 793),(.str "last" 794),(.str "first" 795),(.str "weeks" 796),(.str "week" 797)]
def aCY:Obj:=fz "days" "Weekdays.days" (ib (tp 62) 1)
def aCK:Obj:=co [(.str "days" 790),(.str "Weekdays.days" 791),(sf 792),(i 216),(i 3),(i 0),(i 0),(i 3),(r 450),(.bool true),(i 181),(r 451),.none,(r 452),(r 453),(r 454),(i 798),(i 216),(sf 799)]
def ay7:Obj:=fn "days" "Weekdays.days" (ib (tp 62) 1) 3 [] .none .none .none (.str "fivefields.marks" 527) none (r 455) .none 0
def aBP:Obj:=tu [(.str "self" 804)]
def aC0:Obj:=⟨.none,none,(.func ⟨"told","Weekdays.told",(ag (ib (tp 62) 2)),(.stmts (bd (ib (tp 62) 2))),(sc (ib (tp 58) 2)),0,[],.none,.none,.none,.none,none,.none,.none,0⟩),#[]⟩
def aBG:Obj:=co [(.str "told" 801),(.str "Weekdays.told" 802),(sf 803),(i 222),(i 1),(i 0),(i 0),(i 3),(r 457),(.bool true),(i 181),(r 458),.none,(r 459),(r 460),(r 461),(i 805),(i 222),(sf 806)]
def azB:Obj:=⟨(.type "function"),none,(.func ⟨"told","Weekdays.told",(ag (ib (tp 62) 2)),(.stmts (bd (ib (tp 62) 2))),(sc (ib (tp 58) 2)),3,[],.none,.none,.none,(.str "fivefields.marks" 527),none,(r 462),.none,0⟩),#[]⟩
def azS:Obj:=tu [(.str "mask" 808)]
def azR(P:Params):Obj:=di [(de P "__module__" 777 (.str "fivefields.marks" 527)),(de P "__firstlineno__" 781 (.int 211 780)),(de P "__init__" 789 (r 449)),(de P "days" 800 (r 456)),(de P "told" 807 (r 463)),(de P "__static_attributes__" 809 (r 464)),(de P "__doc__" 810 .none)] 2
def aCQ:Obj:=⟨(.type "type"),none,(.cls ⟨"Weekdays",[(r 305)],[(r 466),(r 305),(.type "object")],465,"Weekdays",true,[],[],false,none,false⟩),#[(some (r 436)),none,(some (.str "Weekdays" 770)),(some (.str "Weekdays" 778)),(some (.builtin "object.__new__")),(some (.bool true))]⟩
def aDE:Obj:=⟨(.type "super"),none,(.fields #[(r 466),(r 466),(r 466)]),#[]⟩
def ayN:Obj:=⟨(.type "builtin_function_or_method"),none,(.fields #[(.builtin "object.__init_subclass__"),(r 466)]),#[]⟩
def t2(P:Params):BT:=(nd (boot_o_0 P) (nd (boot_o_1 P) (nd (o164 P) (nd (boot_o_7 P) (nd o0 (nd o16 (nd o38 (nd o78 (lf o1) (lf aAE)) (nd o1 (lf aDI) (lf ayK))) (nd o59 (nd o0 (lf aBT) (lf az8)) (nd axB (lf o0) .nil))) (nd o20 (nd o48 (nd o0 (lf o0) (lf o1)) (nd awG (lf aBL) (lf azB))) (nd o68 (nd av4 (lf o0) (lf o0)) (nd axO (lf ayX) .nil)))) (nd o11 (nd o1 (nd o43 (nd o82 (lf awF) (lf o0)) (nd avP (lf o0) (lf aCK))) (nd o0 (nd o1 (lf aAU) (lf aA9)) (nd axQ (lf o1) .nil))) (nd o1 (nd o54 (nd o91 (lf aBR) (lf aBK)) (nd o1 (lf abP) .nil)) (nd o73 (nd auW (lf o11) (lf o0)) (nd o0 (lf aAV) .nil))))) (nd o0 (nd o7 (nd o20 (nd o11 (nd o80 (lf auG) (lf o0)) (nd ax4 (lf aA1) (lf o1))) (nd o62 (nd o98 (lf ayF) (lf aBB)) (nd axM (lf aBS) .nil))) (nd o29 (nd o52 (nd o0 (lf o0) (lf ayU)) (nd awI (lf (aCP P)) (lf aDE))) (nd o1 (nd o1 (lf aAW) (lf aC9)) (nd o0 (lf azP) .nil)))) (nd o13 (nd (o24 P) (nd o45 (nd o85 (lf awT) (lf az0)) (nd o1 (lf o0) (lf aBP))) (nd o0 (nd avQ (lf o0) (lf o0)) (nd auE (lf azV) .nil))) (nd o34 (nd o57 (nd o1 (lf o11) (lf o11)) (nd awN (lf aC6) .nil)) (nd o75 (nd auM (lf aCM) (lf o0)) (nd ax2 (lf (az6 P)) .nil)))))) (nd (boot_o_5 P) (nd (boot_o_9 P) (nd o6 (nd o18 (nd o40 (nd o1 (lf o0) (lf o1)) (nd o0 (lf ayY) (lf ayP))) (nd o60 (nd o97 (lf o0) (lf o0)) (nd avM (lf aA4) .nil))) (nd (o28 P) (nd (o50 P) (nd o88 (lf at8) (lf o0)) (nd o0 (lf aA7) (lf (azR P)))) (nd o70 (nd at9 (lf o183) (lf aBW)) (nd o1 (lf aDC) .nil)))) (nd o0 (nd o23 (nd o0 (nd o83 (lf au1) (lf aAK)) (nd aw0 (lf aB4) (lf o0))) (nd o65 (nd o0 (lf o1) (lf o1)) (nd o0 (lf o0) .nil))) (nd o0 (nd o55 (nd o93 (lf ayM) (lf aAG)) (nd o0 (lf (aAP P)) .nil)) (nd o0 (nd o0 (lf o0) (lf aAY)) (nd auC (lf abP) .nil))))) (nd o2 (nd o9 (nd (o21 P) (nd o0 (nd o0 (lf o0) (lf aB1)) (nd o0 (lf o1) (lf o0))) (nd o1 (nd avX (lf aBE) (lf aC7)) (nd o1 (lf ax9) .nil))) (nd o31 (nd o0 (nd o90 (lf aCJ) (lf aCR)) (nd av3 (lf aCU) .nil)) (nd o0 (nd o0 (lf ay8) (lf o11)) (nd at6 (lf (aDG P)) .nil)))) (nd o0 (nd o26 (nd o46 (nd o1 (lf o1) (lf ayO)) (nd o0 (lf aAJ) (lf aC0))) (nd o67 (nd o0 (lf aCB) (lf ay2)) (nd ax6 (lf o0) .nil))) (nd o36 (nd o0 (nd o95 (lf o0) (lf o0)) (nd o0 (lf aAN) .nil)) (nd o76 (nd axR (lf o0) (lf ayW)) (nd avV (lf aB0) .nil))))))) (nd (boot_o_2 P) (nd (boot_o_4 P) (nd (boot_o_8 P) (nd o1 (nd o17 (nd o39 (nd o0 (lf auR) (lf o0)) (nd av0 (lf o0) (lf azX))) (nd o0 (nd o1 (lf aB9) (lf ayV)) (nd o0 (lf o1) .nil))) (nd o11 (nd o49 (nd o87 (lf axT) (lf ayL)) (nd awW (lf azY) (lf azS))) (nd o69 (nd axE (lf (azG P)) (lf (aBO P))) (nd o0 (lf o0) .nil)))) (nd (o12 P) (nd o22 (nd o44 (nd o0 (lf o0) (lf o1)) (nd axN (lf ay4) (lf ay7))) (nd o64 (nd aw8 (lf o0) (lf o0)) (nd avA (lf aBH) .nil))) (nd o32 (nd o0 (nd o92 (lf azH) (lf azK)) (nd awV (lf o11) .nil)) (nd o74 (nd at3 (lf (azA P)) (lf azD)) (nd o1 (lf aA6) .nil))))) (nd o165 (nd o8 (nd o11 (nd (o41 P) (nd o81 (lf axU) (lf aBU)) (nd au4 (lf o0) (lf aBY))) (nd o0 (nd o99 (lf o0) (lf o0)) (nd o0 (lf aC4) .nil))) (nd o30 (nd o53 (nd o1 (lf o1) (lf ayJ)) (nd au8 (lf aCL) (lf ayN))) (nd o71 (nd awJ (lf aB2) (lf abP)) (nd avK (lf aA5) .nil)))) (nd o14 (nd o25 (nd o0 (nd o0 (lf o0) (lf ayG)) (nd avW (lf o1) (lf o0))) (nd o1 (nd auT (lf aBF) (lf ayH)) (nd o0 (lf ay6) .nil))) (nd o35 (nd o58 (nd o94 (lf (aAO P)) (lf (azZ P))) (nd awY (lf az2) .nil)) (nd o0 (nd au2 (lf aA2) (lf o1)) (nd ax0 (lf o0) .nil)))))) (nd (boot_o_6 P) (nd (boot_o_10 P) (nd o0 (nd o19 (nd o20 (nd o79 (lf av7) (lf azU)) (nd avG (lf az3) (lf o0))) (nd o61 (nd o0 (lf o1) (lf o1)) (nd aw1 (lf o0) .nil))) (nd o0 (nd o51 (nd o89 (lf avU) (lf aC2)) (nd o1 (lf az7) (lf aCQ))) (nd o0 (nd o0 (lf aAI) (lf azC)) (nd auK (lf ay1) .nil)))) (nd o1 (nd o0 (nd o1 (nd o84 (lf avF) (lf o0)) (nd o0 (lf aC8) (lf o1))) (nd o66 (nd av8 (lf aCO) (lf azQ)) (nd o1 (lf aBA) .nil))) (nd o33 (nd o56 (nd o0 (lf o0) (lf abP)) (nd auO (lf o0) .nil)) (nd o1 (nd o1 (lf az5) (lf aCV)) (nd o0 (lf o11) .nil))))) (nd o3 (nd o10 (nd o0 (nd o42 (nd o1 (lf o1) (lf aCF)) (nd o1 (lf aAB) (lf aCY))) (nd o63 (nd o0 (lf az1) (lf az4)) (nd au0 (lf o0) .nil))) (nd o0 (nd o1 (nd o0 (lf o0) (lf (aC3 P))) (nd o0 (lf ayS) .nil)) (nd o72 (nd aw6 (lf abP) (lf (ayB P))) (nd aw2 (lf aBQ) .nil)))) (nd (o15 P) (nd o27 (nd o47 (nd o86 (lf awQ) (lf o0)) (nd ax3 (lf o0) (lf aBG))) (nd o0 (nd o1 (lf aCH) (lf aA8)) (nd avR (lf o1) .nil))) (nd (o37 P) (nd o1 (nd o96 (lf ayC) (lf aB3)) (nd o1 (lf ayQ) .nil)) (nd o77 (nd o0 (lf o1) (lf o0)) (nd o0 (lf azT) .nil))))))))
def s2(w:World)(os:OsState):SharedT:=⟨t2 w.params,469,⟨[],[],[],0,[],[],false,#[],[],0,false,false,false,0,[2000,10,10],false,0,true,[],[],0,false⟩,#[],⟨0,0,0,0⟩,813,os⟩
def l1:List Stmt:=(bi.drop 56).take 7
theorem r1(w:World)(os:OsState):
  segRunT treeTable pw w 11 an 1 1800 (s1 w os) (piecesOf l1 ev cd ⟨152,0,158,14⟩ bk) =
  some (.next,s2 w os,cd,⟨211,0,223,38⟩):=by kernel_rfl
def o290(P:Params):Obj:=di [(de P "__name__" 165 (.str "law_fivefields_k44_shut_by" 1197)),(de P "__doc__" 166 .none),(de P "__package__" 167 .none),(de P "__loader__" 168 (.builtin "__main__.__loader__#opaque")),(de P "__spec__" 169 .none),(de P "__annotations__" 170 (r 6)),(de P "__builtins__" 171 (r 4)),(de P "__file__" 173 (sf 172)),(de P "__cached__" 174 .none),(de P "_wall" 193 (r 21)),(de P "FieldError" 213 (r 31)),(de P "NoDay" 229 (r 44)),(de P "NoField" 254 (r 63)),(de P "NoRow" 279 (r 82)),(de P "is_whole" 288 (r 91)),(de P "MONTH_LASTS" 303 (r 92)),(de P "ROUND_YEARS" 305 (.int 400 304)),(de P "ROUND_DAYS" 307 (.int 146097 306)),(de P "is_long" 314 (r 99)),(de P "multiples_before" 322 (r 106)),(de P "days_before" 330 (r 113)),(de P "last_of" 338 (r 120)),(de P "is_date" 347 (r 127)),(de P "day_of" 353 (r 132)),(de P "year_of" 361 (r 139)),(de P "date_of" 371 (r 146)),(de P "weekday" 378 (r 153)),(de P "FIGURES" 382 (.str "0123456789" 381)),(de P "all_figures" 388 (r 158)),(de P "is_written" 395 (r 165)),(de P "has" 405 (r 172)),(de P "starts_of" 411 (r 177)),(de P "end_from" 420 (r 184)),(de P "ranges_of" 426 (r 189)),(de P "shown_range" 434 (r 196)),(de P "shown_ranges" 440 (r 201)),(de P "MOST_SIGNS" 444 (.int 300 443)),(de P "MOST_ITEMS" 446 (.int 40 445)),(de P "MOST_STRIDE" 448 (.int 99 447)),(de P "mask_of" 457 (r 208)),(de P "numbers_in" 463 (r 213)),(de P "run_mask" 472 (r 220)),(de P "read_number" 482 (r 227)),(de P "read_run" 488 (r 232)),(de P "read_strided" 501 (r 239)),(de P "read_item" 512 (r 246)),(de P "read_field" 526 (r 253)),(de P "MOST_MARKS" 530 (.int 20 529)),(de P "MOST_DAY" 532 (.int 31 531)),(de P "MOST_BACK" 534 (.int 30 533)),(de P "MOST_NTH" 536 (.int 5 535)),(de P "SUNDAY" 538 (.int 0 537)),(de P "SATURDAY" 540 (.int 6 539)),(de P "SUNDAY_TOO" 542 (.int 7 541)),(de P "ALL_WEEKDAYS" 544 (.int 127 543)),(de P "weekday_at" 552 (r 260)),(de P "all_days" 559 (r 267)),(de P "nearest_work" 569 (r 274)),(de P "first_one" 577 (r 281)),(de P "Mark" 613 (r 305)),(de P "Numbers" 654 (r 340)),(de P "Last" 696 (r 374)),(de P "Near" 737 (r 407)),(de P "LastWork" 769 (r 433)),(de P "Weekdays" 812 (r 466)),(de P "Nth" 856 (r 499)),(de P "LastOne" 897 (r 532)),(de P "any_days" 908 (r 541)),(de P "read_day_mark" 917 (r 548)),(de P "read_weekday" 925 (r 555)),(de P "read_weekday_mark" 935 (r 562)),(de P "read_items" 952 (r 569)),(de P "read_days" 960 (r 576)),(de P "read_weekdays" 969 (r 583)),(de P "DAY_MINUTES" 973 (.int 1440 972)),(de P "HOUR_MINUTES" 975 (.int 60 974)),(de P "parted" 983 (r 590)),(de P "LONG_PLACE" 987 (.int 12 986)),(de P "LONG_LAST" 989 (.int 29 988)),(de P "SHORT_YEAR" 991 (.int 1 990)),(de P "kind_from" 1001 (r 597)),(de P "kind_of" 1009 (r 604)),(de P "month_at" 1018 (r 611)),(de P "MOST_ROW_SIGNS" 1022 (.int 1600 1021)),(de P "MINUTE" 1024 (.int 0 1023)),(de P "HOUR" 1026 (.int 1 1025)),(de P "DAY" 1028 (.int 2 1027)),(de P "MONTH" 1030 (.int 3 1029)),(de P "WEEKDAY" 1032 (.int 4 1031)),(de P "NO_PLACE" 1034 (.int 5 1033)),(de P "BOUNDS" 1047 (r 612)),(de P "times_of" 1057 (r 622)),(de P "days_by" 1069 (r 629)),(de P "Row" 1173 (r 709)),(de P "read_word" 1182 (r 720)),(de P "read_at" 1190 (r 727)),(de P "read_row" 1196 (r 732)),(de P "_law_cell_at" 1206 (r 739)),(de P "_law_stir" 1215 (r 746)),(de P "_law_digits" 1226 (r 753)),(de P "_law_whole" 1233 (r 760)),(de P "_law_item" 1246 (r 767))] 102
def o291:Obj:=fd [(i 1),(i 0),(r 20),(i 5),(i 0),(r 27),(i 7),(i 0),(r 40),(i 9),(i 0),(r 52),(i 13),(i 0),(r 71),(i 18),(i 0),(r 90),(i 24),(i 0),(r 98),(i 26),(i 0),(r 105),(i 28),(i 0),(r 112),(i 31),(i 0),(r 119),(i 35),(i 0),(r 126),(i 39),(i 0),(r 131),(i 44),(i 0),(r 138),(i 49),(i 0),(r 145),(i 57),(i 0),(r 152),(i 61),(i 0),(r 157),(i 63),(i 0),(r 164),(i 66),(i 0),(r 171),(i 68),(i 0),(r 176),(i 71),(i 0),(r 183),(i 76),(i 0),(r 188),(i 78),(i 0),(r 195),(i 82),(i 0),(r 200),(i 88),(i 0),(r 207),(i 93),(i 0),(r 212),(i 95),(i 0),(r 219),(i 97),(i 0),(r 226),(i 104),(i 0),(r 231),(i 111),(i 0),(r 238),(i 118),(i 0),(r 245),(i 126),(i 0),(r 252),(i 148),(i 0),(r 259),(i 150),(i 0),(r 266),(i 152),(i 0),(r 273),(i 159),(i 0),(r 280),(i 161),(i 0),(r 287),(i 168),(i 0),(r 315),(i 178),(i 0),(r 348),(i 192),(i 0),(r 382),(i 204),(i 0),(r 415),(i 211),(i 0),(r 441),(i 224),(i 0),(r 474),(i 238),(i 0),(r 507),(i 248),(i 0),(r 540),(i 253),(i 0),(r 547),(i 265),(i 0),(r 554),(i 268),(i 0),(r 561),(i 280),(i 0),(r 568),(i 298),(i 0),(r 575),(i 305),(i 0),(r 582),(i 316),(i 0),(r 589),(i 323),(i 0),(r 596),(i 326),(i 0),(r 603),(i 328),(i 0),(r 610),(i 343),(i 0),(r 621),(i 348),(i 0),(r 628),(i 356),(i 0),(r 635),(i 405),(i 0),(r 719),(i 412),(i 0),(r 726),(i 417),(i 0),(r 731),(i 425),(i 0),(r 738),(i 429),(i 0),(r 745),(i 433),(i 0),(r 752),(i 444),(i 0),(r 759),(i 446),(i 0),(r 766)]
def aH5:Obj:=⟨(.type "type"),none,(.cls ⟨"Mark",[(.type "object")],[(r 305),(.type "object")],304,"Mark",true,[],[(r 340),(r 374),(r 407),(r 433),(r 466),(r 499),(r 532)],false,none,false⟩),#[none,none,(some (.str "Mark" 578)),(some (.str "Mark" 586)),(some (.builtin "object.__new__")),(some (.bool true))]⟩
def aH6(P:Params):Obj:=di [(de P "__module__" 820 (.str "fivefields.marks" 527)),(de P "__qualname__" 822 (.str "Nth" 821)),(de P "__firstlineno__" 824 (.int 224 823)),(de P "__init__" 833 (r 482)),(de P "days" 843 (r 489)),(de P "told" 850 (r 496)),(de P "__static_attributes__" 853 (r 497))] 7
def aGW:Obj:=fd [(i 226),(i 4),(r 481),(i 230),(i 4),(r 488),(i 236),(i 4),(r 495)]
def aI7:Obj:=co [(.str "Nth" 815),(.str "Nth" 816),(sf 817),(i 224),(i 0),(i 0),(i 0),(i 0),(r 472),(.bool false),(i 181),(r 473),.none,.none,.none,.none,(i 818),(i 224),(sf 819)]
def aIL:Obj:=⟨(.type "frame"),none,.plain,#[(some (r 474)),(some (r 3)),(some (r 471)),none,(some (.str "fivefields.marks" 527)),none,(some (r 0))]⟩
def aEE:Obj:=tu [(.str "self" 828),(.str "weekday" 829),(.str "many" 830)]
def aJR:Obj:=fz "__init__" "Nth.__init__" (ib (tp 63) 0)
def aFN:Obj:=co [(.str "__init__" 825),(.str "Nth.__init__" 826),(sf 827),(i 226),(i 3),(i 0),(i 0),(i 3),(r 476),(.bool true),(i 181),(r 477),.none,(r 478),(r 479),(r 480),(i 831),(i 226),(sf 832)]
def aHX:Obj:=fn "__init__" "Nth.__init__" (ib (tp 63) 0) 3 [] .none .none .none (.str "fivefields.marks" 527) none (r 481) .none 0
def aEI:Obj:=tu [(.str "self" 837),(.str "last" 838),(.str "first" 839),(.str "day" 840)]
def aHD:Obj:=fz "days" "Nth.days" (ib (tp 63) 1)
def aES:Obj:=co [(.str "days" 834),(.str "Nth.days" 835),(sf 836),(i 230),(i 3),(i 0),(i 0),(i 3),(r 483),(.bool true),(i 181),(r 484),.none,(r 485),(r 486),(r 487),(i 841),(i 230),(sf 842)]
def aKC:Obj:=fn "days" "Nth.days" (ib (tp 63) 1) 3 [] .none .none .none (.str "fivefields.marks" 527) none (r 488) .none 0
def aGJ:Obj:=tu [(.str "self" 847)]
def aK3:Obj:=⟨.none,none,(.func ⟨"told","Nth.told",(ag (ib (tp 63) 2)),(.stmts (bd (ib (tp 63) 2))),(sc (ib (tp 59) 2)),0,[],.none,.none,.none,.none,none,.none,.none,0⟩),#[]⟩
def aFE:Obj:=co [(.str "told" 844),(.str "Nth.told" 845),(sf 846),(i 236),(i 1),(i 0),(i 0),(i 3),(r 490),(.bool true),(i 181),(r 491),.none,(r 492),(r 493),(r 494),(i 848),(i 236),(sf 849)]
def aGR:Obj:=⟨(.type "function"),none,(.func ⟨"told","Nth.told",(ag (ib (tp 63) 2)),(.stmts (bd (ib (tp 63) 2))),(sc (ib (tp 59) 2)),3,[],.none,.none,.none,(.str "fivefields.marks" 527),none,(r 495),.none,0⟩),#[]⟩
def aGH:Obj:=tu [(.str "many" 851),(.str "weekday" 852)]
def aHK(P:Params):Obj:=di [(de P "__module__" 820 (.str "fivefields.marks" 527)),(de P "__firstlineno__" 824 (.int 224 823)),(de P "__init__" 833 (r 482)),(de P "days" 843 (r 489)),(de P "told" 850 (r 496)),(de P "__static_attributes__" 853 (r 497)),(de P "__doc__" 854 .none)] 2
def aG1:Obj:=⟨(.type "type"),none,(.cls ⟨"Nth",[(r 305)],[(r 499),(r 305),(.type "object")],498,"Nth",true,[],[],false,none,false⟩),#[(some (r 469)),none,(some (.str "Nth" 813)),(some (.str "Nth" 821)),(some (.builtin "object.__new__")),(some (.bool true))]⟩
def aJI:Obj:=⟨(.type "super"),none,(.fields #[(r 499),(r 499),(r 499)]),#[]⟩
def aH7:Obj:=⟨(.type "builtin_function_or_method"),none,(.fields #[(.builtin "object.__init_subclass__"),(r 499)]),#[]⟩
def aKR(P:Params):Obj:=di [(de P "__module__" 864 (.str "fivefields.marks" 527)),(de P "__qualname__" 866 (.str "LastOne" 865)),(de P "__firstlineno__" 868 (.int 238 867)),(de P "__init__" 876 (r 515)),(de P "days" 885 (r 522)),(de P "told" 892 (r 529)),(de P "__static_attributes__" 894 (r 530))] 7
def aKB:Obj:=fd [(i 240),(i 4),(r 514),(i 243),(i 4),(r 521),(i 246),(i 4),(r 528)]
def aK2:Obj:=co [(.str "LastOne" 859),(.str "LastOne" 860),(sf 861),(i 238),(i 0),(i 0),(i 0),(i 0),(r 505),(.bool false),(i 181),(r 506),.none,.none,.none,.none,(i 862),(i 238),(sf 863)]
def aEU:Obj:=⟨(.type "frame"),none,.plain,#[(some (r 507)),(some (r 3)),(some (r 504)),none,(some (.str "fivefields.marks" 527)),none,(some (r 0))]⟩
def aK5:Obj:=tu [(.str "self" 872),(.str "weekday" 873)]
def aEZ:Obj:=fz "__init__" "LastOne.__init__" (ib (tp 64) 0)
def aKJ:Obj:=co [(.str "__init__" 869),(.str "LastOne.__init__" 870),(sf 871),(i 240),(i 2),(i 0),(i 0),(i 3),(r 509),(.bool true),(i 181),(r 510),.none,(r 511),(r 512),(r 513),(i 874),(i 240),(sf 875)]
def aF6:Obj:=fn "__init__" "LastOne.__init__" (ib (tp 64) 0) 3 [] .none .none .none (.str "fivefields.marks" 527) none (r 514) .none 0
def aJJ:Obj:=tu [(.str "self" 880),(.str "last" 881),(.str "first" 882)]
def aI3:Obj:=fz "days" "LastOne.days" (ib (tp 64) 1)
def aJC:Obj:=co [(.str "days" 877),(.str "LastOne.days" 878),(sf 879),(i 243),(i 3),(i 0),(i 0),(i 3),(r 516),(.bool true),(i 181),(r 517),.none,(r 518),(r 519),(r 520),(i 883),(i 243),(sf 884)]
def aKW:Obj:=fn "days" "LastOne.days" (ib (tp 64) 1) 3 [] .none .none .none (.str "fivefields.marks" 527) none (r 521) .none 0
def aGB:Obj:=tu [(.str "self" 889)]
def aI8:Obj:=⟨.none,none,(.func ⟨"told","LastOne.told",(ag (ib (tp 64) 2)),(.stmts (bd (ib (tp 64) 2))),(sc (ib (tp 59) 2)),0,[],.none,.none,.none,.none,none,.none,.none,0⟩),#[]⟩
def aFP:Obj:=co [(.str "told" 886),(.str "LastOne.told" 887),(sf 888),(i 246),(i 1),(i 0),(i 0),(i 3),(r 523),(.bool true),(i 181),(r 524),.none,(r 525),(r 526),(r 527),(i 890),(i 246),(sf 891)]
def aIJ:Obj:=⟨(.type "function"),none,(.func ⟨"told","LastOne.told",(ag (ib (tp 64) 2)),(.stmts (bd (ib (tp 64) 2))),(sc (ib (tp 59) 2)),3,[],.none,.none,.none,(.str "fivefields.marks" 527),none,(r 528),.none,0⟩),#[]⟩
def aJ4:Obj:=tu [(.str "weekday" 893)]
def aHZ(P:Params):Obj:=di [(de P "__module__" 864 (.str "fivefields.marks" 527)),(de P "__firstlineno__" 868 (.int 238 867)),(de P "__init__" 876 (r 515)),(de P "days" 885 (r 522)),(de P "told" 892 (r 529)),(de P "__static_attributes__" 894 (r 530)),(de P "__doc__" 895 .none)] 2
def aFU:Obj:=⟨(.type "type"),none,(.cls ⟨"LastOne",[(r 305)],[(r 532),(r 305),(.type "object")],531,"LastOne",true,[],[],false,none,false⟩),#[(some (r 502)),none,(some (.str "LastOne" 857)),(some (.str "LastOne" 865)),(some (.builtin "object.__new__")),(some (.bool true))]⟩
def aID:Obj:=⟨(.type "super"),none,(.fields #[(r 532),(r 532),(r 532)]),#[]⟩
def aHF:Obj:=⟨(.type "builtin_function_or_method"),none,(.fields #[(.builtin "object.__init_subclass__"),(r 532)]),#[]⟩
def aKD:Obj:=tu [(.str "marks" 901),(.str "last" 902),(.str "first" 903),(.str "mask" 904),(.str "mark" 905)]
def aE7:Obj:=fz "any_days" "any_days" (tp 65)
def aFV:Obj:=co [(.str "any_days" 898),(.str "any_days" 899),(sf 900),(i 248),(i 3),(i 0),(i 0),(i 3),(r 535),(.bool true),(i 181),(r 536),.none,(r 537),(r 538),(r 539),(i 906),(i 248),(sf 907)]
def aEH:Obj:=fn "any_days" "any_days" (tp 65) 3 [] .none .none .none (.str "fivefields.marks" 527) none (r 540) .none 0
def aLG:Obj:=tu [(.str "item" 912),(.str "back" 913),(.str "day" 914)]
def aIE:Obj:=fz "read_day_mark" "read_day_mark" (tp 66)
def aG0:Obj:=co [(.str "read_day_mark" 909),(.str "read_day_mark" 910),(sf 911),(i 253),(i 1),(i 0),(i 0),(i 3),(r 542),(.bool true),(i 181),(r 543),.none,(r 544),(r 545),(r 546),(i 915),(i 253),(sf 916)]
def aFY:Obj:=fn "read_day_mark" "read_day_mark" (tp 66) 3 [] .none .none .none (.str "fivefields.marks" 527) none (r 547) .none 0
def aIA:Obj:=tu [(.str "text" 921),(.str "number" 922)]
def aGS:Obj:=fz "read_weekday" "read_weekday" (tp 67)
def aE1:Obj:=co [(.str "read_weekday" 918),(.str "read_weekday" 919),(sf 920),(i 265),(i 1),(i 0),(i 0),(i 3),(r 549),(.bool true),(i 181),(r 550),.none,(r 551),(r 552),(r 553),(i 923),(i 265),(sf 924)]
def aIB:Obj:=fn "read_weekday" "read_weekday" (tp 67) 3 [] .none .none .none (.str "fivefields.marks" 527) none (r 554) .none 0
def aGZ:Obj:=tu [(.str "item" 929),(.str "weekday" 930),(.str "parts" 931),(.str "many" 932)]
def aET:Obj:=fz "read_weekday_mark" "read_weekday_mark" (tp 68)
def aKU:Obj:=co [(.str "read_weekday_mark" 926),(.str "read_weekday_mark" 927),(sf 928),(i 268),(i 1),(i 0),(i 0),(i 3),(r 556),(.bool true),(i 181),(r 557),.none,(r 558),(r 559),(r 560),(i 933),(i 268),(sf 934)]
def aGE:Obj:=fn "read_weekday_mark" "read_weekday_mark" (tp 68) 3 [] .none .none .none (.str "fivefields.marks" 527) none (r 561) .none 0
def aFO:Obj:=tu [(.str "text" 939),(.str "low" 940),(.str "high" 941),(.str "read_mark" 942),(.str "items" 943),(.str "mask" 944),(.str "marks" 945),(.str "place" 946),(.str "item" 947),(.str "plain" 948),(.str "mark" 949)]
def aGQ:Obj:=fz "read_items" "read_items" (tp 69)
def aI4:Obj:=co [(.str "read_items" 936),(.str "read_items" 937),(sf 938),(i 280),(i 4),(i 0),(i 0),(i 3),(r 563),(.bool true),(i 181),(r 564),.none,(r 565),(r 566),(r 567),(i 950),(i 280),(sf 951)]
def aJF:Obj:=fn "read_items" "read_items" (tp 69) 3 [] .none .none .none (.str "fivefields.marks" 527) none (r 568) .none 0
def aLE:Obj:=tu [(.str "text" 956),(.str "read" 957)]
def aHT:Obj:=fz "read_days" "read_days" (tp 70)
def aEX:Obj:=co [(.str "read_days" 953),(.str "read_days" 954),(sf 955),(i 298),(i 1),(i 0),(i 0),(i 3),(r 570),(.bool true),(i 181),(r 571),.none,(r 572),(r 573),(r 574),(i 958),(i 298),(sf 959)]
def aHG:Obj:=fn "read_days" "read_days" (tp 70) 3 [] .none .none .none (.str "fivefields.marks" 527) none (r 575) .none 0
def aHA:Obj:=tu [(.str "text" 964),(.str "read" 965),(.str "mask" 966)]
def aF8:Obj:=fz "read_weekdays" "read_weekdays" (tp 71)
def aFW:Obj:=co [(.str "read_weekdays" 961),(.str "read_weekdays" 962),(sf 963),(i 305),(i 1),(i 0),(i 0),(i 3),(r 577),(.bool true),(i 181),(r 578),.none,(r 579),(r 580),(r 581),(i 967),(i 305),(sf 968)]
def aK8:Obj:=fn "read_weekdays" "read_weekdays" (tp 71) 3 [] .none .none .none (.str "fivefields.marks" 527) none (r 582) .none 0
def aKG:Obj:=tu [(.str "moment" 979),(.str "time" 980)]
def aFF:Obj:=fz "parted" "parted" (tp 75)
def aEM:Obj:=co [(.str "parted" 976),(.str "parted" 977),(sf 978),(i 316),(i 1),(i 0),(i 0),(i 3),(r 584),(.bool true),(i 181),(r 585),.none,(r 586),(r 587),(r 588),(i 981),(i 316),(sf 982)]
def aKN:Obj:=fn "parted" "parted" (tp 75) 3 [] .none .none .none (.str "fivefields.moments" 970) none (r 589) .none 0
def aG7:Obj:=tu [(.str "year" 995),(.str "month" 996),(.str "day" 997),(.str "place" 998)]
def aGN:Obj:=fz "kind_from" "kind_from" (tp 80)
def aHL:Obj:=co [(.str "kind_from" 992),(.str "kind_from" 993),(sf 994),(i 323),(i 3),(i 0),(i 0),(i 3),(r 591),(.bool true),(i 181),(r 592),.none,(r 593),(r 594),(r 595),(i 999),(i 323),(sf 1000)]
def aKI:Obj:=fn "kind_from" "kind_from" (tp 80) 3 [] .none .none .none (.str "fivefields.months" 984) none (r 596) .none 0
def aGC:Obj:=tu [(.str "year" 1005),(.str "month" 1006)]
def aFK:Obj:=fz "kind_of" "kind_of" (tp 81)
def aIX:Obj:=co [(.str "kind_of" 1002),(.str "kind_of" 1003),(sf 1004),(i 326),(i 2),(i 0),(i 0),(i 3),(r 598),(.bool true),(i 181),(r 599),.none,(r 600),(r 601),(r 602),(i 1007),(i 326),(sf 1008)]
def aG2:Obj:=fn "kind_of" "kind_of" (tp 81) 3 [] .none .none .none (.str "fivefields.months" 984) none (r 603) .none 0
def aHY:Obj:=tu [(.str "kind" 1013),(.str "place" 1014),(.str "first" 1015)]
def aIQ:Obj:=fz "month_at" "month_at" (tp 82)
def aFQ:Obj:=co [(.str "month_at" 1010),(.str "month_at" 1011),(sf 1012),(i 328),(i 1),(i 0),(i 0),(i 3),(r 605),(.bool true),(i 181),(r 606),.none,(r 607),(r 608),(r 609),(i 1016),(i 328),(sf 1017)]
def aHS:Obj:=fn "month_at" "month_at" (tp 82) 3 [] .none .none .none (.str "fivefields.months" 984) none (r 610) .none 0
def aG3:Obj:=di [⟨0,(.int 0 1035),(r 613)⟩,⟨1,(.int 1 1038),(r 614)⟩,⟨3,(.int 3 1041),(r 615)⟩] 3
def aKQ:Obj:=tu [(.int 0 1036),(.int 59 1037)]
def aHQ:Obj:=tu [(.int 0 1039),(.int 23 1040)]
def aI1:Obj:=tu [(.int 1 1042),(.int 12 1043)]
def aKF:Obj:=tu [(.str "hours" 1051),(.str "minutes" 1052),(.str "times" 1053),(.str "hour" 1054)]
def aG4:Obj:=fz "times_of" "times_of" (tp 92)
def aE2:Obj:=co [(.str "times_of" 1048),(.str "times_of" 1049),(sf 1050),(i 343),(i 2),(i 0),(i 0),(i 3),(r 616),(.bool true),(i 181),(r 617),.none,(r 618),(r 619),(r 620),(i 1055),(i 343),(sf 1056)]
def aLF:Obj:=fn "times_of" "times_of" (tp 92) 3 [] .none .none .none (.str "fivefields.rows" 1019) none (r 621) .none 0
def aIG:Obj:=tu [(.str "days" 1061),(.str "weekdays" 1062),(.str "last" 1063),(.str "first" 1064),(.str "mask" 1065),(.str "marks" 1066)]
def aJK:Obj:=fz "days_by" "days_by" (tp 93)
def aIR:Obj:=co [(.str "days_by" 1058),(.str "days_by" 1059),(sf 1060),(i 348),(i 4),(i 0),(i 0),(i 3),(r 623),(.bool true),(i 181),(r 624),.none,(r 625),(r 626),(r 627),(i 1067),(i 348),(sf 1068)]
def aH3:Obj:=fn "days_by" "days_by" (tp 93) 3 [] .none .none .none (.str "fivefields.rows" 1019) none (r 628) .none 0
def aK7(P:Params):Obj:=di [(de P "__module__" 1077 (.str "fivefields.rows" 1019)),(de P "__qualname__" 1079 (.str "Row" 1078)),(de P "__firstlineno__" 1081 (.int 356 1080)),(de P "__init__" 1089 (r 643)),(de P "minutes" 1096 (r 650)),(de P "hours" 1103 (r 657)),(de P "months" 1110 (r 664)),(de P "times" 1117 (r 671)),(de P "days_in" 1126 (r 678)),(de P "on_days" 1134 (r 685)),(de P "holds" 1142 (r 692)),(de P "shut_by" 1152 (r 699)),(de P "shown" 1159 (r 706)),(de P "__static_attributes__" 1166 (r 707))] 14
def aGM:Obj:=fd [(i 358),(i 4),(r 642),(i 366),(i 4),(r 649),(i 369),(i 4),(r 656),(i 372),(i 4),(r 663),(i 375),(i 4),(r 670),(i 378),(i 4),(r 677),(i 384),(i 4),(r 684),(i 387),(i 4),(r 691),(i 390),(i 4),(r 698),(i 403),(i 4),(r 705)]
def aJ1:Obj:=co [(.str "Row" 1072),(.str "Row" 1073),(sf 1074),(i 356),(i 0),(i 0),(i 0),(i 0),(r 633),(.bool false),(i 181),(r 634),.none,.none,.none,.none,(i 1075),(i 356),(sf 1076)]
def aFZ:Obj:=⟨(.type "frame"),none,.plain,#[(some (r 635)),(some (r 3)),(some (r 632)),none,(some (.str "fivefields.rows" 1019)),none,(some (r 0))]⟩
def aHU:Obj:=tu [(.str "self" 1085),(.str "fields" 1086)]
def aE9:Obj:=fz "__init__" "Row.__init__" (ib (tp 94) 0)
def aJ8:Obj:=co [(.str "__init__" 1082),(.str "Row.__init__" 1083),(sf 1084),(i 358),(i 2),(i 0),(i 0),(i 3),(r 637),(.bool true),(i 181),(r 638),.none,(r 639),(r 640),(r 641),(i 1087),(i 358),(sf 1088)]
def aKT:Obj:=fn "__init__" "Row.__init__" (ib (tp 94) 0) 3 [] .none .none .none (.str "fivefields.rows" 1019) none (r 642) .none 0
def aG5:Obj:=tu [(.str "self" 1093)]
def aKX:Obj:=⟨.none,none,(.func ⟨"minutes","Row.minutes",(ag (ib (tp 94) 1)),(.stmts (bd (ib (tp 94) 1))),(sc (ib (tp 57) 1)),0,[],.none,.none,.none,.none,none,.none,.none,0⟩),#[]⟩
def aKZ:Obj:=co [(.str "minutes" 1090),(.str "Row.minutes" 1091),(sf 1092),(i 366),(i 1),(i 0),(i 0),(i 3),(r 644),(.bool true),(i 181),(r 645),.none,(r 646),(r 647),(r 648),(i 1094),(i 366),(sf 1095)]
def aFA:Obj:=⟨(.type "function"),none,(.func ⟨"minutes","Row.minutes",(ag (ib (tp 94) 1)),(.stmts (bd (ib (tp 94) 1))),(sc (ib (tp 57) 1)),3,[],.none,.none,.none,(.str "fivefields.rows" 1019),none,(r 649),.none,0⟩),#[]⟩
def aEK:Obj:=tu [(.str "self" 1100)]
def aIM:Obj:=⟨.none,none,(.func ⟨"hours","Row.hours",(ag (ib (tp 94) 2)),(.stmts (bd (ib (tp 94) 2))),(sc (ib (tp 57) 1)),0,[],.none,.none,.none,.none,none,.none,.none,0⟩),#[]⟩
def aJQ:Obj:=co [(.str "hours" 1097),(.str "Row.hours" 1098),(sf 1099),(i 369),(i 1),(i 0),(i 0),(i 3),(r 651),(.bool true),(i 181),(r 652),.none,(r 653),(r 654),(r 655),(i 1101),(i 369),(sf 1102)]
def aJL:Obj:=⟨(.type "function"),none,(.func ⟨"hours","Row.hours",(ag (ib (tp 94) 2)),(.stmts (bd (ib (tp 94) 2))),(sc (ib (tp 57) 1)),3,[],.none,.none,.none,(.str "fivefields.rows" 1019),none,(r 656),.none,0⟩),#[]⟩
def aE0:Obj:=tu [(.str "self" 1107)]
def aFL:Obj:=fz "months" "Row.months" (ib (tp 94) 3)
def aKA:Obj:=co [(.str "months" 1104),(.str "Row.months" 1105),(sf 1106),(i 372),(i 1),(i 0),(i 0),(i 3),(r 658),(.bool true),(i 181),(r 659),.none,(r 660),(r 661),(r 662),(i 1108),(i 372),(sf 1109)]
def aHB:Obj:=fn "months" "Row.months" (ib (tp 94) 3) 3 [] .none .none .none (.str "fivefields.rows" 1019) none (r 663) .none 0
def aJH:Obj:=tu [(.str "self" 1114)]
def aF4:Obj:=⟨.none,none,(.func ⟨"times","Row.times",(ag (ib (tp 94) 4)),(.stmts (bd (ib (tp 94) 4))),(sc (ib (tp 57) 1)),0,[],.none,.none,.none,.none,none,.none,.none,0⟩),#[]⟩
def aI0:Obj:=co [(.str "times" 1111),(.str "Row.times" 1112),(sf 1113),(i 375),(i 1),(i 0),(i 0),(i 3),(r 665),(.bool true),(i 181),(r 666),.none,(r 667),(r 668),(r 669),(i 1115),(i 375),(sf 1116)]
def aJG:Obj:=⟨(.type "function"),none,(.func ⟨"times","Row.times",(ag (ib (tp 94) 4)),(.stmts (bd (ib (tp 94) 4))),(sc (ib (tp 57) 1)),3,[],.none,.none,.none,(.str "fivefields.rows" 1019),none,(r 670),.none,0⟩),#[]⟩
def aE3:Obj:=tu [(.str "self" 1121),(.str "kind" 1122),(.str "month" 1123)]
def aIC:Obj:=fz "days_in" "Row.days_in" (ib (tp 94) 5)
def aH0:Obj:=co [(.str "days_in" 1118),(.str "Row.days_in" 1119),(sf 1120),(i 378),(i 2),(i 0),(i 0),(i 3),(r 672),(.bool true),(i 181),(r 673),.none,(r 674),(r 675),(r 676),(i 1124),(i 378),(sf 1125)]
def aJS:Obj:=fn "days_in" "Row.days_in" (ib (tp 94) 5) 3 [] .none .none .none (.str "fivefields.rows" 1019) none (r 677) .none 0
def aF7:Obj:=tu [(.str "self" 1130),(.str "kind" 1131)]
def aHN:Obj:=fz "on_days" "Row.on_days" (ib (tp 94) 6)
def aH2:Obj:=co [(.str "on_days" 1127),(.str "Row.on_days" 1128),(sf 1129),(i 384),(i 2),(i 0),(i 0),(i 3),(r 679),(.bool true),(i 181),(r 680),.none,(r 681),(r 682),(r 683),(i 1132),(i 384),(sf 1133)]
def aEL:Obj:=fn "on_days" "Row.on_days" (ib (tp 94) 6) 3 [] .none .none .none (.str "fivefields.rows" 1019) none (r 684) .none 0
def aGT:Obj:=tu [(.str "self" 1138),(.str "moment" 1139)]
def aI2:Obj:=fz "holds" "Row.holds" (ib (tp 94) 7)
def aEQ:Obj:=co [(.str "holds" 1135),(.str "Row.holds" 1136),(sf 1137),(i 387),(i 2),(i 0),(i 0),(i 3),(r 686),(.bool true),(i 181),(r 687),.none,(r 688),(r 689),(r 690),(i 1140),(i 387),(sf 1141)]
def aLB:Obj:=fn "holds" "Row.holds" (ib (tp 94) 7) 3 [] .none .none .none (.str "fivefields.rows" 1019) none (r 691) .none 0
def aIU:Obj:=tu [(.str "self" 1146),(.str "moment" 1147),(.str "parts" 1148),(.str "date" 1149)]
def aER:Obj:=fz "shut_by" "Row.shut_by" (ib (tp 94) 8)
def aJA:Obj:=co [(.str "shut_by" 1143),(.str "Row.shut_by" 1144),(sf 1145),(i 390),(i 2),(i 0),(i 0),(i 3),(r 693),(.bool true),(i 181),(r 694),.none,(r 695),(r 696),(r 697),(i 1150),(i 390),(sf 1151)]
def aIO:Obj:=fn "shut_by" "Row.shut_by" (ib (tp 94) 8) 3 [] .none .none .none (.str "fivefields.rows" 1019) none (r 698) .none 0
def aGP:Obj:=tu [(.str "self" 1156)]
def aJ5:Obj:=⟨.none,none,(.func ⟨"shown","Row.shown",(ag (ib (tp 94) 9)),(.stmts (bd (ib (tp 94) 9))),(sc (ib (tp 94) 3)),0,[],.none,.none,.none,.none,none,.none,.none,0⟩),#[]⟩
def aK1:Obj:=co [(.str "shown" 1153),(.str "Row.shown" 1154),(sf 1155),(i 403),(i 1),(i 0),(i 0),(i 3),(r 700),(.bool true),(i 181),(r 701),.none,(r 702),(r 703),(r 704),(i 1157),(i 403),(sf 1158)]
def aFD:Obj:=⟨(.type "function"),none,(.func ⟨"shown","Row.shown",(ag (ib (tp 94) 9)),(.stmts (bd (ib (tp 94) 9))),(sc (ib (tp 94) 3)),3,[],.none,.none,.none,(.str "fivefields.rows" 1019),none,(r 705),.none,0⟩),#[]⟩
def aEJ:Obj:=tu [(.str "day_marks" 1160),(.str "hour_mask" 1161),(.str "minute_mask" 1162),(.str "month_mask" 1163),(.str "time_mask" 1164),(.str "weekday_marks" 1165)]
def aEO(P:Params):Obj:=di [(de P "__module__" 1077 (.str "fivefields.rows" 1019)),(de P "__firstlineno__" 1081 (.int 356 1080)),(de P "__init__" 1089 (r 643)),(de P "minutes" 1096 (r 650)),(de P "hours" 1103 (r 657)),(de P "months" 1110 (r 664)),(de P "times" 1117 (r 671)),(de P "days_in" 1126 (r 678)),(de P "on_days" 1134 (r 685)),(de P "holds" 1142 (r 692)),(de P "shut_by" 1152 (r 699)),(de P "shown" 1159 (r 706)),(de P "__static_attributes__" 1166 (r 707)),(de P "__dict__" 1168 (r 710)),(de P "__weakref__" 1170 (r 711)),(de P "__doc__" 1171 .none)] 4
def aEW:Obj:=⟨(.type "type"),none,(.cls ⟨"Row",[(.type "object")],[(r 709),(.type "object")],708,"Row",true,[],[],false,none,false⟩),#[none,none,(some (.str "Row" 1070)),(some (.str "Row" 1078)),(some (.builtin "object.__new__")),(some (.bool true))]⟩
def aIZ:Obj:=⟨(.type "getset_descriptor"),none,(.fields #[(.str "__dict__" 1167),(r 709),(.builtin "function.__dict__"),(.builtin "function.__dict__#set")]),#[]⟩
def aEF:Obj:=⟨(.type "getset_descriptor"),none,(.fields #[(.str "__weakref__" 1169),(r 709),(.builtin "ExceptionGroup.__weakref__"),.none]),#[]⟩
def aG9:Obj:=⟨(.type "super"),none,(.fields #[(r 709),(r 709),(r 709)]),#[]⟩
def aJ2:Obj:=⟨(.type "builtin_function_or_method"),none,(.fields #[(.builtin "object.__init_subclass__"),(r 709)]),#[]⟩
def aGU:Obj:=tu [(.str "word" 1177),(.str "place" 1178),(.str "bounds" 1179)]
def aEG:Obj:=fz "read_word" "read_word" (tp 95)
def aGV:Obj:=co [(.str "read_word" 1174),(.str "read_word" 1175),(sf 1176),(i 405),(i 2),(i 0),(i 0),(i 3),(r 714),(.bool true),(i 181),(r 715),.none,(r 716),(r 717),(r 718),(i 1180),(i 405),(sf 1181)]
def aF0:Obj:=fn "read_word" "read_word" (tp 95) 3 [] .none .none .none (.str "fivefields.rows" 1019) none (r 719) .none 0
def aLA:Obj:=tu [(.str "word" 1186),(.str "place" 1187)]
def aJN:Obj:=fz "read_at" "read_at" (tp 96)
def aKL:Obj:=co [(.str "read_at" 1183),(.str "read_at" 1184),(sf 1185),(i 412),(i 2),(i 0),(i 0),(i 3),(r 721),(.bool true),(i 181),(r 722),.none,(r 723),(r 724),(r 725),(i 1188),(i 412),(sf 1189)]
def aJ9:Obj:=fn "read_at" "read_at" (tp 96) 3 [] .none .none .none (.str "fivefields.rows" 1019) none (r 726) .none 0
def aJP:Obj:=fz "read_row" "read_row" (tp 97)
def aFI:Obj:=co [(.str "read_row" 1191),(.str "read_row" 1192),(sf 1193),(i 417),(i 1),(i 0),(i 0),(i 3),(r 728),(.bool true),(i 181),(r 729),.none,.none,.none,(r 730),(i 1194),(i 417),(sf 1195)]
def aE4:Obj:=fn "read_row" "read_row" (tp 97) 3 [] .none .none .none (.str "fivefields.rows" 1019) none (r 731) .none 0
def aIS:Obj:=tu [(.str "_law_script" 1202),(.str "_law_k" 1203)]
def aEN:Obj:=fz "_law_cell_at" "_law_cell_at" (tp 99)
def aHJ:Obj:=co [(.str "_law_cell_at" 1199),(.str "_law_cell_at" 1200),(sf 1201),(i 425),(i 2),(i 0),(i 0),(i 3),(r 733),(.bool true),(i 181),(r 734),.none,(r 735),(r 736),(r 737),(i 1204),(i 425),(sf 1205)]
def aJW:Obj:=fn "_law_cell_at" "_law_cell_at" (tp 99) 3 [] .none .none .none (.str "law_fivefields_k44_shut_by" 1197) none (r 738) .none 0
def aGD:Obj:=tu [(.str "_law_number" 1210),(.str "_law_first_here" 1211),(.str "_law_second" 1212)]
def aHM:Obj:=fz "_law_stir" "_law_stir" (tp 100)
def aHR:Obj:=co [(.str "_law_stir" 1207),(.str "_law_stir" 1208),(sf 1209),(i 429),(i 1),(i 0),(i 0),(i 3),(r 740),(.bool true),(i 181),(r 741),.none,(r 742),(r 743),(r 744),(i 1213),(i 429),(sf 1214)]
def aIW:Obj:=fn "_law_stir" "_law_stir" (tp 100) 3 [] .none .none .none (.str "law_fivefields_k44_shut_by" 1197) none (r 745) .none 0
def aFC:Obj:=tu [(.str "_law_cell" 1219),(.str "_law_sizes" 1220),(.str "_law_mixed" 1221),(.str "_law_found" 1222),(.str "_law_size" 1223)]
def aH9:Obj:=fz "_law_digits" "_law_digits" (tp 101)
def aIY:Obj:=co [(.str "_law_digits" 1216),(.str "_law_digits" 1217),(sf 1218),(i 433),(i 3),(i 0),(i 0),(i 3),(r 747),(.bool true),(i 181),(r 748),.none,(r 749),(r 750),(r 751),(i 1224),(i 433),(sf 1225)]
def aGF:Obj:=fn "_law_digits" "_law_digits" (tp 101) 3 [] .none .none .none (.str "law_fivefields_k44_shut_by" 1197) none (r 752) .none 0
def aKY:Obj:=tu [(.str "_law_found" 1230)]
def aF3:Obj:=fz "_law_whole" "_law_whole" (tp 102)
def aGA:Obj:=co [(.str "_law_whole" 1227),(.str "_law_whole" 1228),(sf 1229),(i 444),(i 1),(i 0),(i 0),(i 3),(r 754),(.bool true),(i 181),(r 755),.none,(r 756),(r 757),(r 758),(i 1231),(i 444),(sf 1232)]
def aF2:Obj:=fn "_law_whole" "_law_whole" (tp 102) 3 [] .none .none .none (.str "law_fivefields_k44_shut_by" 1197) none (r 759) .none 0
def aF1:Obj:=tu [(.str "_law_way" 1237),(.str "_law_first_here" 1238),(.str "_law_last_here" 1239),(.str "_law_step" 1240),(.str "_law_bounds" 1241),(.str "_law_low" 1242),(.str "_law_high" 1243)]
def aH1:Obj:=fz "_law_item" "_law_item" (tp 103)
def aF5:Obj:=co [(.str "_law_item" 1234),(.str "_law_item" 1235),(sf 1236),(i 446),(i 5),(i 0),(i 0),(i 3),(r 761),(.bool true),(i 181),(r 762),.none,(r 763),(r 764),(r 765),(i 1244),(i 446),(sf 1245)]
def aK6:Obj:=fn "_law_item" "_law_item" (tp 103) 3 [] .none .none .none (.str "law_fivefields_k44_shut_by" 1197) none (r 766) .none 0
def t3(P:Params):BT:=(nd (boot_o_0 P) (nd (boot_o_1 P) (nd (o290 P) (nd (boot_o_7 P) (nd o0 (nd o16 (nd o38 (nd o78 (nd o1 (lf aK5) (lf aK6)) (nd aAE (lf aHU) .nil)) (nd o1 (nd aDI (lf aEX) .nil) (nd ayK (lf o0) .nil))) (nd o59 (nd o0 (nd aBT (lf o1) .nil) (nd az8 (lf aJG) .nil)) (nd axB (nd o0 (lf aHY) .nil) (nd o0 (lf aIS) .nil)))) (nd o20 (nd o48 (nd o0 (nd o0 (lf aI8) .nil) (nd o1 (lf aIM) .nil)) (nd awG (nd aBL (lf o0) .nil) (nd azB (lf aGV) .nil))) (nd o68 (nd av4 (nd o0 (lf o0) .nil) (nd o0 (lf o1) .nil)) (nd axO (nd ayX (lf o0) .nil) (nd aFE (lf aH9) .nil))))) (nd o11 (nd o1 (nd o43 (nd o82 (nd awF (lf o0) .nil) (nd o0 (lf o0) .nil)) (nd avP (nd o0 (lf aK8) .nil) (nd aCK (lf aEF) .nil))) (nd o0 (nd o1 (nd aAU (lf aIA) .nil) (nd aA9 (lf o0) .nil)) (nd axQ (nd o1 (lf aI1) .nil) (nd aHD (lf o0) .nil)))) (nd o1 (nd o54 (nd o91 (nd aBR (lf o0) .nil) (nd aBK (lf aKA) .nil)) (nd o1 (nd abP (lf o1) .nil) (nd (aH6 P) (lf aJ9) .nil))) (nd o73 (nd auW (nd o11 (lf aGQ) .nil) (nd o0 (lf aIU) .nil)) (nd o0 (nd aAV (lf o11) .nil) (nd o11 (lf aGA) .nil)))))) (nd o0 (nd o7 (nd o20 (nd o11 (nd o80 (nd auG (lf aF6) .nil) (nd o0 (lf aKT) .nil)) (nd ax4 (nd aA1 (lf aHA) .nil) (nd o1 (lf aEJ) .nil))) (nd o62 (nd o98 (nd ayF (lf aG0) .nil) (nd aBB (lf o0) .nil)) (nd axM (nd aBS (lf aHS) .nil) (nd o0 (lf aJW) .nil)))) (nd o29 (nd o52 (nd o0 (nd o0 (lf (aHZ P)) .nil) (nd ayU (lf o1) .nil)) (nd awI (nd (aCP P) (lf aGN) .nil) (nd aDE (lf aLA) .nil))) (nd o1 (nd o1 (nd aAW (lf o0) .nil) (nd aC9 (lf aEQ) .nil)) (nd o0 (nd azP (lf aJK) .nil) (nd aG1 (lf o1) .nil))))) (nd o13 (nd (o24 P) (nd o45 (nd o85 (nd awT (lf o0) .nil) (nd az0 (lf o0) .nil)) (nd o1 (nd o0 (lf o0) .nil) (nd aBP (lf o1) .nil))) (nd o0 (nd avQ (nd o0 (lf aIB) .nil) (nd o0 (lf aHN) .nil)) (nd auE (nd azV (lf o0) .nil) (nd o1 (lf o0) .nil)))) (nd o34 (nd o57 (nd o1 (nd o11 (lf aE7) .nil) (nd o11 (lf aJH) .nil)) (nd awN (nd aC6 (lf aIX) .nil) (nd aIL (lf aFI) .nil))) (nd o75 (nd auM (nd aCM (lf o1) .nil) (nd o0 (lf aIO) .nil)) (nd ax2 (nd (az6 P) (lf aJ1) .nil) (nd aK2 (lf aF1) .nil))))))) (nd (boot_o_5 P) (nd (boot_o_9 P) (nd o6 (nd o18 (nd o40 (nd o1 (nd o0 (lf aEZ) .nil) (nd o1 (lf aE9) .nil)) (nd o0 (nd ayY (lf o0) .nil) (nd ayP (lf aK1) .nil))) (nd o60 (nd o97 (nd o0 (lf o0) .nil) (nd o0 (lf o1) .nil)) (nd avM (nd aA4 (lf aIQ) .nil) (nd aFN (lf aEN) .nil)))) (nd (o28 P) (nd (o50 P) (nd o88 (nd at8 (lf aIJ) .nil) (nd o0 (lf aJL) .nil)) (nd o0 (nd aA7 (lf aG7) .nil) (nd (azR P) (lf o0) .nil))) (nd o70 (nd at9 (nd aH5 (lf aKU) .nil) (nd aBW (lf o0) .nil)) (nd o1 (nd aDC (lf aIG) .nil) (nd aGH (lf aGF) .nil))))) (nd o0 (nd o23 (nd o0 (nd o83 (nd au1 (lf aJC) .nil) (nd aAK (lf aKZ) .nil)) (nd aw0 (nd aB4 (lf o1) .nil) (nd o0 (lf aJ2) .nil))) (nd o65 (nd o0 (nd o1 (lf aGS) .nil) (nd o1 (lf aF7) .nil)) (nd o0 (nd o0 (lf o1) .nil) (nd aKC (lf aHR) .nil)))) (nd o0 (nd o55 (nd o93 (nd ayM (lf aKD) .nil) (nd aAG (lf o0) .nil)) (nd o0 (nd (aAP P) (lf o0) .nil) (nd aGW (lf o1) .nil))) (nd o0 (nd o0 (nd o0 (lf aJF) .nil) (nd aAY (lf aER) .nil)) (nd auC (nd abP (lf o0) .nil) (nd o0 (lf o0) .nil)))))) (nd o2 (nd o9 (nd (o21 P) (nd o0 (nd o0 (nd o0 (lf o1) .nil) (nd aB1 (lf o1) .nil)) (nd o0 (nd o1 (lf aF8) .nil) (nd o0 (lf aEW) .nil))) (nd o1 (nd avX (nd aBE (lf o0) .nil) (nd aC7 (lf aH0) .nil)) (nd o1 (nd ax9 (lf aKQ) .nil) (nd aEI (lf o1) .nil)))) (nd o31 (nd o0 (nd o90 (nd aCJ (lf aID) .nil) (nd aCR (lf o0) .nil)) (nd av3 (nd aCU (lf aKI) .nil) (nd abP (lf aJN) .nil))) (nd o0 (nd o0 (nd ay8 (lf aFO) .nil) (nd o11 (lf o0) .nil)) (nd at6 (nd (aDG P) (lf aH3) .nil) (nd aH7 (lf o0) .nil))))) (nd o0 (nd o26 (nd o46 (nd o1 (nd o1 (lf aGB) .nil) (nd ayO (lf aEK) .nil)) (nd o0 (nd aAJ (lf aEM) .nil) (nd aC0 (lf o0) .nil))) (nd o67 (nd o0 (nd aCB (lf o1) .nil) (nd ay2 (lf aEL) .nil)) (nd ax6 (nd o0 (lf aE2) .nil) (nd o0 (lf aFC) .nil)))) (nd o36 (nd o0 (nd o95 (nd o0 (lf aEH) .nil) (nd o0 (lf aF4) .nil)) (nd o0 (nd aAN (lf o0) .nil) (nd o1 (lf o0) .nil))) (nd o76 (nd axR (nd o0 (lf o0) .nil) (nd ayW (lf o1) .nil)) (nd avV (nd aB0 (lf o0) .nil) (nd o0 (lf aH1) .nil)))))))) (nd (boot_o_2 P) (nd (boot_o_4 P) (nd (boot_o_8 P) (nd o1 (nd o17 (nd o39 (nd o0 (nd auR (lf o0) .nil) (nd o0 (lf o0) .nil)) (nd av0 (nd o0 (lf aHG) .nil) (nd azX (lf aJ5) .nil))) (nd o0 (nd o1 (nd aB9 (lf aLG) .nil) (nd ayV (lf o0) .nil)) (nd o0 (nd o1 (lf o0) .nil) (nd aJR (lf o0) .nil)))) (nd o11 (nd o49 (nd o87 (nd axT (lf aFP) .nil) (nd ayL (lf aJQ) .nil)) (nd awW (nd azY (lf o1) .nil) (nd azS (lf aF0) .nil))) (nd o69 (nd axE (nd (azG P) (lf aET) .nil) (nd (aBO P) (lf aGT) .nil)) (nd o0 (nd o0 (lf o1) .nil) (nd aGR (lf aIY) .nil))))) (nd (o12 P) (nd o22 (nd o44 (nd o0 (nd o0 (lf aI3) .nil) (nd o1 (lf aKX) .nil)) (nd axN (nd ay4 (lf o0) .nil) (nd ay7 (lf aG9) .nil))) (nd o64 (nd aw8 (nd o0 (lf o0) .nil) (nd o0 (lf o1) .nil)) (nd avA (nd aBH (lf o0) .nil) (nd aES (lf aHM) .nil)))) (nd o32 (nd o0 (nd o92 (nd azH (lf o1) .nil) (nd azK (lf aHB) .nil)) (nd awV (nd o11 (lf aGC) .nil) (nd o0 (lf o0) .nil))) (nd o74 (nd at3 (nd (azA P) (lf aI4) .nil) (nd azD (lf o0) .nil)) (nd o1 (nd aA6 (lf (aK7 P)) .nil) (nd (aKR P) (lf aF2) .nil)))))) (nd o291 (nd o8 (nd o11 (nd (o41 P) (nd o81 (nd axU (lf o0) .nil) (nd aBU (lf o0) .nil)) (nd au4 (nd o0 (lf o0) .nil) (nd aBY (lf (aEO P)) .nil))) (nd o0 (nd o99 (nd o0 (lf aFY) .nil) (nd o0 (lf aIC) .nil)) (nd o0 (nd aC4 (lf aG3) .nil) (nd o1 (lf o0) .nil)))) (nd o30 (nd o53 (nd o1 (nd o1 (lf aFU) .nil) (nd ayJ (lf aE0) .nil)) (nd au8 (nd aCL (lf aHL) .nil) (nd ayN (lf o0) .nil))) (nd o71 (nd awJ (nd aB2 (lf o1) .nil) (nd abP (lf aLB) .nil)) (nd avK (nd aA5 (lf aIR) .nil) (nd aJI (lf aKY) .nil))))) (nd o14 (nd o25 (nd o0 (nd o0 (nd o0 (lf o1) .nil) (nd ayG (lf o1) .nil)) (nd avW (nd o1 (lf aFF) .nil) (nd o0 (lf aGU) .nil))) (nd o1 (nd auT (nd aBF (lf o0) .nil) (nd ayH (lf aH2) .nil)) (nd o0 (nd ay6 (lf aG4) .nil) (nd aGJ (lf o1) .nil)))) (nd o35 (nd o58 (nd o94 (nd (aAO P) (lf aFV) .nil) (nd (azZ P) (lf o0) .nil)) (nd awY (nd az2 (lf aG2) .nil) (nd o0 (lf aE4) .nil))) (nd o0 (nd au2 (nd aA2 (lf aLE) .nil) (nd o1 (lf o0) .nil)) (nd ax0 (nd o0 (lf aFZ) .nil) (nd aEU (lf o0) .nil))))))) (nd (boot_o_6 P) (nd (boot_o_10 P) (nd o0 (nd o19 (nd o20 (nd o79 (nd av7 (lf aKJ) .nil) (nd azU (lf aJ8) .nil)) (nd avG (nd az3 (lf o1) .nil) (nd o0 (lf aFD) .nil))) (nd o61 (nd o0 (nd o1 (lf aIE) .nil) (nd o1 (lf aE3) .nil)) (nd aw1 (nd o0 (lf aFQ) .nil) (nd aHX (lf aHJ) .nil)))) (nd o0 (nd o51 (nd o89 (nd avU (lf aJ4) .nil) (nd aC2 (lf o0) .nil)) (nd o1 (nd az7 (lf o0) .nil) (nd aCQ (lf o1) .nil))) (nd o0 (nd o0 (nd aAI (lf aGE) .nil) (nd azC (lf aI2) .nil)) (nd auK (nd ay1 (lf o0) .nil) (nd (aHK P) (lf o0) .nil))))) (nd o1 (nd o0 (nd o1 (nd o84 (nd avF (lf aKW) .nil) (nd o0 (lf aFA) .nil)) (nd o0 (nd aC8 (lf aKG) .nil) (nd o1 (lf o0) .nil))) (nd o66 (nd av8 (nd aCO (lf aE1) .nil) (nd azQ (lf o0) .nil)) (nd o1 (nd aBA (lf aKF) .nil) (nd o0 (lf aIW) .nil)))) (nd o33 (nd o56 (nd o0 (nd o0 (lf o0) .nil) (nd abP (lf o1) .nil)) (nd auO (nd o0 (lf aFK) .nil) (nd aI7 (lf aJP) .nil))) (nd o1 (nd o1 (nd az5 (lf o0) .nil) (nd aCV (lf aJA) .nil)) (nd o0 (nd o11 (lf aGM) .nil) (nd aKB (lf o1) .nil)))))) (nd o3 (nd o10 (nd o0 (nd o42 (nd o1 (nd o1 (lf aJJ) .nil) (nd aCF (lf aG5) .nil)) (nd o1 (nd aAB (lf aFW) .nil) (nd aCY (lf aIZ) .nil))) (nd o63 (nd o0 (nd az1 (lf o1) .nil) (nd az4 (lf aJS) .nil)) (nd au0 (nd o0 (lf aHQ) .nil) (nd o0 (lf aGD) .nil)))) (nd o0 (nd o1 (nd o0 (nd o0 (lf aHF) .nil) (nd (aC3 P) (lf aFL) .nil)) (nd o0 (nd ayS (lf o0) .nil) (nd o11 (lf aKL) .nil))) (nd o72 (nd aw6 (nd abP (lf o0) .nil) (nd (ayB P) (lf o1) .nil)) (nd aw2 (nd aBQ (lf o0) .nil) (nd abP (lf aF3) .nil))))) (nd (o15 P) (nd o27 (nd o47 (nd o86 (nd awQ (lf o0) .nil) (nd o0 (lf o0) .nil)) (nd ax3 (nd o0 (lf aKN) .nil) (nd aBG (lf aEG) .nil))) (nd o0 (nd o1 (nd aCH (lf aGZ) .nil) (nd aA8 (lf o0) .nil)) (nd avR (nd o1 (lf aLF) .nil) (nd aK3 (lf o0) .nil)))) (nd (o37 P) (nd o1 (nd o96 (nd ayC (lf o0) .nil) (nd aB3 (lf aI0) .nil)) (nd o1 (nd ayQ (lf o1) .nil) (nd aEE (lf o1) .nil))) (nd o77 (nd o0 (nd o1 (lf aHT) .nil) (nd o0 (lf aGP) .nil)) (nd o0 (nd azT (lf o1) .nil) (nd o1 (lf aF5) .nil)))))))))
def s3(w:World)(os:OsState):SharedT:=⟨t3 w.params,768,⟨[],[],[],0,[],[],false,#[],[],0,false,false,false,0,[2000,10,10],false,0,true,[],[],0,false⟩,#[],⟨0,0,0,0⟩,1247,os⟩
def l2:List Stmt:=(bi.drop 63).take 41
theorem r2(w:World)(os:OsState):
  segRunT treeTable pw w 11 an 1 1997 (s2 w os) (piecesOf l2 ev cd ⟨211,0,223,38⟩ bk) =
  some (.next,s3 w os,cd,⟨446,0,459,83⟩):=
 byRow2 "special-get-raises" (P:=fun w=>segRunT treeTable pw w 11 an 1 1997 (s2 w os) (piecesOf l2 ev cd ⟨211,0,223,38⟩ bk)=some (.next,s3 w os,cd,⟨446,0,459,83⟩)) (fun w=>by kernel_rfl) (fun w=>by kernel_rfl) w
def aNB(P:Params):Obj:=di [(de P "__name__" 165 (.str "law_fivefields_k44_shut_by" 1197)),(de P "__doc__" 166 .none),(de P "__package__" 167 .none),(de P "__loader__" 168 (.builtin "__main__.__loader__#opaque")),(de P "__spec__" 169 .none),(de P "__annotations__" 170 (r 6)),(de P "__builtins__" 171 (r 4)),(de P "__file__" 173 (sf 172)),(de P "__cached__" 174 .none),(de P "_wall" 193 (r 21)),(de P "FieldError" 213 (r 31)),(de P "NoDay" 229 (r 44)),(de P "NoField" 254 (r 63)),(de P "NoRow" 279 (r 82)),(de P "is_whole" 288 (r 91)),(de P "MONTH_LASTS" 303 (r 92)),(de P "ROUND_YEARS" 305 (.int 400 304)),(de P "ROUND_DAYS" 307 (.int 146097 306)),(de P "is_long" 314 (r 99)),(de P "multiples_before" 322 (r 106)),(de P "days_before" 330 (r 113)),(de P "last_of" 338 (r 120)),(de P "is_date" 347 (r 127)),(de P "day_of" 353 (r 132)),(de P "year_of" 361 (r 139)),(de P "date_of" 371 (r 146)),(de P "weekday" 378 (r 153)),(de P "FIGURES" 382 (.str "0123456789" 381)),(de P "all_figures" 388 (r 158)),(de P "is_written" 395 (r 165)),(de P "has" 405 (r 172)),(de P "starts_of" 411 (r 177)),(de P "end_from" 420 (r 184)),(de P "ranges_of" 426 (r 189)),(de P "shown_range" 434 (r 196)),(de P "shown_ranges" 440 (r 201)),(de P "MOST_SIGNS" 444 (.int 300 443)),(de P "MOST_ITEMS" 446 (.int 40 445)),(de P "MOST_STRIDE" 448 (.int 99 447)),(de P "mask_of" 457 (r 208)),(de P "numbers_in" 463 (r 213)),(de P "run_mask" 472 (r 220)),(de P "read_number" 482 (r 227)),(de P "read_run" 488 (r 232)),(de P "read_strided" 501 (r 239)),(de P "read_item" 512 (r 246)),(de P "read_field" 526 (r 253)),(de P "MOST_MARKS" 530 (.int 20 529)),(de P "MOST_DAY" 532 (.int 31 531)),(de P "MOST_BACK" 534 (.int 30 533)),(de P "MOST_NTH" 536 (.int 5 535)),(de P "SUNDAY" 538 (.int 0 537)),(de P "SATURDAY" 540 (.int 6 539)),(de P "SUNDAY_TOO" 542 (.int 7 541)),(de P "ALL_WEEKDAYS" 544 (.int 127 543)),(de P "weekday_at" 552 (r 260)),(de P "all_days" 559 (r 267)),(de P "nearest_work" 569 (r 274)),(de P "first_one" 577 (r 281)),(de P "Mark" 613 (r 305)),(de P "Numbers" 654 (r 340)),(de P "Last" 696 (r 374)),(de P "Near" 737 (r 407)),(de P "LastWork" 769 (r 433)),(de P "Weekdays" 812 (r 466)),(de P "Nth" 856 (r 499)),(de P "LastOne" 897 (r 532)),(de P "any_days" 908 (r 541)),(de P "read_day_mark" 917 (r 548)),(de P "read_weekday" 925 (r 555)),(de P "read_weekday_mark" 935 (r 562)),(de P "read_items" 952 (r 569)),(de P "read_days" 960 (r 576)),(de P "read_weekdays" 969 (r 583)),(de P "DAY_MINUTES" 973 (.int 1440 972)),(de P "HOUR_MINUTES" 975 (.int 60 974)),(de P "parted" 983 (r 590)),(de P "LONG_PLACE" 987 (.int 12 986)),(de P "LONG_LAST" 989 (.int 29 988)),(de P "SHORT_YEAR" 991 (.int 1 990)),(de P "kind_from" 1001 (r 597)),(de P "kind_of" 1009 (r 604)),(de P "month_at" 1018 (r 611)),(de P "MOST_ROW_SIGNS" 1022 (.int 1600 1021)),(de P "MINUTE" 1024 (.int 0 1023)),(de P "HOUR" 1026 (.int 1 1025)),(de P "DAY" 1028 (.int 2 1027)),(de P "MONTH" 1030 (.int 3 1029)),(de P "WEEKDAY" 1032 (.int 4 1031)),(de P "NO_PLACE" 1034 (.int 5 1033)),(de P "BOUNDS" 1047 (r 612)),(de P "times_of" 1057 (r 622)),(de P "days_by" 1069 (r 629)),(de P "Row" 1173 (r 709)),(de P "read_word" 1182 (r 720)),(de P "read_at" 1190 (r 727)),(de P "read_row" 1196 (r 732)),(de P "_law_cell_at" 1206 (r 739)),(de P "_law_stir" 1215 (r 746)),(de P "_law_digits" 1226 (r 753)),(de P "_law_whole" 1233 (r 760)),(de P "_law_item" 1246 (r 767)),(de P "_law_mask" 1252 (r 772)),(de P "_law_spec" 1258 (r 777)),(de P "_law_working" 1264 (r 782)),(de P "_law_near" 1275 (r 789)),(de P "_law_on" 1281 (r 794)),(de P "_law_days" 1287 (r 799)),(de P "_law_field" 1308 (r 806)),(de P "_law_day_field" 1323 (r 813)),(de P "_law_row" 1329 (r 818)),(de P "_law_days_in" 1343 (r 825)),(de P "_law_long" 1350 (r 832)),(de P "_law_before" 1357 (r 839)),(de P "_law_last" 1365 (r 846)),(de P "_law_date" 1376 (r 853)),(de P "_law_moment" 1394 (r 860)),(de P "_law_shut" 1408 (r 867)),(de P "_law_cells" 1414 (r 872)),(de P "_law_good" 1425 (r 879)),(de P "_law_first" 1431 (r 884)),(de P "law" 1451 (r 891))] 122
def aLQ:Obj:=fd [(i 1),(i 0),(r 20),(i 5),(i 0),(r 27),(i 7),(i 0),(r 40),(i 9),(i 0),(r 52),(i 13),(i 0),(r 71),(i 18),(i 0),(r 90),(i 24),(i 0),(r 98),(i 26),(i 0),(r 105),(i 28),(i 0),(r 112),(i 31),(i 0),(r 119),(i 35),(i 0),(r 126),(i 39),(i 0),(r 131),(i 44),(i 0),(r 138),(i 49),(i 0),(r 145),(i 57),(i 0),(r 152),(i 61),(i 0),(r 157),(i 63),(i 0),(r 164),(i 66),(i 0),(r 171),(i 68),(i 0),(r 176),(i 71),(i 0),(r 183),(i 76),(i 0),(r 188),(i 78),(i 0),(r 195),(i 82),(i 0),(r 200),(i 88),(i 0),(r 207),(i 93),(i 0),(r 212),(i 95),(i 0),(r 219),(i 97),(i 0),(r 226),(i 104),(i 0),(r 231),(i 111),(i 0),(r 238),(i 118),(i 0),(r 245),(i 126),(i 0),(r 252),(i 148),(i 0),(r 259),(i 150),(i 0),(r 266),(i 152),(i 0),(r 273),(i 159),(i 0),(r 280),(i 161),(i 0),(r 287),(i 168),(i 0),(r 315),(i 178),(i 0),(r 348),(i 192),(i 0),(r 382),(i 204),(i 0),(r 415),(i 211),(i 0),(r 441),(i 224),(i 0),(r 474),(i 238),(i 0),(r 507),(i 248),(i 0),(r 540),(i 253),(i 0),(r 547),(i 265),(i 0),(r 554),(i 268),(i 0),(r 561),(i 280),(i 0),(r 568),(i 298),(i 0),(r 575),(i 305),(i 0),(r 582),(i 316),(i 0),(r 589),(i 323),(i 0),(r 596),(i 326),(i 0),(r 603),(i 328),(i 0),(r 610),(i 343),(i 0),(r 621),(i 348),(i 0),(r 628),(i 356),(i 0),(r 635),(i 405),(i 0),(r 719),(i 412),(i 0),(r 726),(i 417),(i 0),(r 731),(i 425),(i 0),(r 738),(i 429),(i 0),(r 745),(i 433),(i 0),(r 752),(i 444),(i 0),(r 759),(i 446),(i 0),(r 766),(i 460),(i 0),(r 771),(i 462),(i 0),(r 776),(i 482),(i 0),(r 781),(i 484),(i 0),(r 788),(i 492),(i 0),(r 793),(i 494),(i 0),(r 798),(i 509),(i 0),(r 805),(i 522),(i 0),(r 812),(i 533),(i 0),(r 817),(i 541),(i 0),(r 824),(i 552),(i 0),(r 831),(i 554),(i 0),(r 838),(i 556),(i 0),(r 845),(i 560),(i 0),(r 852),(i 571),(i 0),(r 859),(i 580),(i 0),(r 866),(i 593),(i 0),(r 871),(i 595),(i 0),(r 878),(i 601),(i 0),(r 883),(i 603),(i 0),(r 890)]
def aPB:Obj:=fz "_law_mask" "_law_mask" (tp 104)
def aMB:Obj:=co [(.str "_law_mask" 1247),(.str "_law_mask" 1248),(sf 1249),(i 460),(i 1),(i 0),(i 0),(i 3),(r 768),(.bool true),(i 181),(r 769),.none,.none,.none,(r 770),(i 1250),(i 460),(sf 1251)]
def aOJ:Obj:=fn "_law_mask" "_law_mask" (tp 104) 3 [] .none .none .none (.str "law_fivefields_k44_shut_by" 1197) none (r 771) .none 0
def aM9:Obj:=fz "_law_spec" "_law_spec" (tp 105)
def aMD:Obj:=co [(.str "_law_spec" 1253),(.str "_law_spec" 1254),(sf 1255),(i 462),(i 2),(i 0),(i 0),(i 3),(r 773),(.bool true),(i 181),(r 774),.none,.none,.none,(r 775),(i 1256),(i 462),(sf 1257)]
def aML:Obj:=fn "_law_spec" "_law_spec" (tp 105) 3 [] .none .none .none (.str "law_fivefields_k44_shut_by" 1197) none (r 776) .none 0
def aOL:Obj:=fz "_law_working" "_law_working" (tp 106)
def aO7:Obj:=co [(.str "_law_working" 1259),(.str "_law_working" 1260),(sf 1261),(i 482),(i 2),(i 0),(i 0),(i 3),(r 778),(.bool true),(i 181),(r 779),.none,.none,.none,(r 780),(i 1262),(i 482),(sf 1263)]
def aNE:Obj:=fn "_law_working" "_law_working" (tp 106) 3 [] .none .none .none (.str "law_fivefields_k44_shut_by" 1197) none (r 781) .none 0
def aNQ:Obj:=tu [(.str "_law_day" 1268),(.str "_law_last_here" 1269),(.str "_law_first_here" 1270),(.str "_law_found" 1271),(.str "_law_other" 1272)]
def aOD:Obj:=fz "_law_near" "_law_near" (tp 107)
def aL6:Obj:=co [(.str "_law_near" 1265),(.str "_law_near" 1266),(sf 1267),(i 484),(i 3),(i 0),(i 0),(i 3),(r 783),(.bool true),(i 181),(r 784),.none,(r 785),(r 786),(r 787),(i 1273),(i 484),(sf 1274)]
def aLH:Obj:=fn "_law_near" "_law_near" (tp 107) 3 [] .none .none .none (.str "law_fivefields_k44_shut_by" 1197) none (r 788) .none 0
def aMJ:Obj:=fz "_law_on" "_law_on" (tp 108)
def aL4:Obj:=co [(.str "_law_on" 1276),(.str "_law_on" 1277),(sf 1278),(i 492),(i 3),(i 0),(i 0),(i 3),(r 790),(.bool true),(i 181),(r 791),.none,.none,.none,(r 792),(i 1279),(i 492),(sf 1280)]
def aNS:Obj:=fn "_law_on" "_law_on" (tp 108) 3 [] .none .none .none (.str "law_fivefields_k44_shut_by" 1197) none (r 793) .none 0
def aLY:Obj:=fz "_law_days" "_law_days" (tp 109)
def aOB:Obj:=co [(.str "_law_days" 1282),(.str "_law_days" 1283),(sf 1284),(i 494),(i 4),(i 0),(i 0),(i 3),(r 795),(.bool true),(i 181),(r 796),.none,.none,.none,(r 797),(i 1285),(i 494),(sf 1286)]
def aOR:Obj:=fn "_law_days" "_law_days" (tp 109) 3 [] .none .none .none (.str "law_fivefields_k44_shut_by" 1197) none (r 798) .none 0
def aN7:Obj:=tu [(.str "_law_cell" 1291),(.str "_law_low" 1292),(.str "_law_high" 1293),(.str "_law_mixed" 1294),(.str "_law_wide" 1295),(.str "_law_parts" 1296),(.str "_law_texts" 1297),(.str "_law_numbers" 1298),(.str "_law_k" 1299),(.str "_law_way" 1300),(.str "_law_first_here" 1301),(.str "_law_last_here" 1302),(.str "_law_step" 1303),(.str "_law_text" 1304),(.str "_law_some" 1305)]
def aL3:Obj:=fz "_law_field" "_law_field" (tp 110)
def aMZ:Obj:=co [(.str "_law_field" 1288),(.str "_law_field" 1289),(sf 1290),(i 509),(i 4),(i 0),(i 0),(i 3),(r 800),(.bool true),(i 181),(r 801),.none,(r 802),(r 803),(r 804),(i 1306),(i 509),(sf 1307)]
def aOU:Obj:=fn "_law_field" "_law_field" (tp 110) 3 [] .none .none .none (.str "law_fivefields_k44_shut_by" 1197) none (r 805) .none 0
def aOY:Obj:=tu [(.str "_law_cell" 1312),(.str "_law_week" 1313),(.str "_law_mixed" 1314),(.str "_law_parts" 1315),(.str "_law_texts" 1316),(.str "_law_specs" 1317),(.str "_law_k" 1318),(.str "_law_text" 1319),(.str "_law_spec_here" 1320)]
def aOV:Obj:=fz "_law_day_field" "_law_day_field" (tp 111)
def aNV:Obj:=co [(.str "_law_day_field" 1309),(.str "_law_day_field" 1310),(sf 1311),(i 522),(i 3),(i 0),(i 0),(i 3),(r 807),(.bool true),(i 181),(r 808),.none,(r 809),(r 810),(r 811),(i 1321),(i 522),(sf 1322)]
def aNP:Obj:=fn "_law_day_field" "_law_day_field" (tp 111) 3 [] .none .none .none (.str "law_fivefields_k44_shut_by" 1197) none (r 812) .none 0
def aO4:Obj:=fz "_law_row" "_law_row" (tp 112)
def aNK:Obj:=co [(.str "_law_row" 1324),(.str "_law_row" 1325),(sf 1326),(i 533),(i 2),(i 0),(i 0),(i 3),(r 814),(.bool true),(i 181),(r 815),.none,.none,.none,(r 816),(i 1327),(i 533),(sf 1328)]
def aLM:Obj:=fn "_law_row" "_law_row" (tp 112) 3 [] .none .none .none (.str "law_fivefields_k44_shut_by" 1197) none (r 817) .none 0
def aMS:Obj:=tu [(.str "_law_row_here" 1333),(.str "_law_month" 1334),(.str "_law_last_here" 1335),(.str "_law_first_here" 1336),(.str "_law_found" 1337),(.str "_law_specs" 1338),(.str "_law_week" 1339),(.str "_law_spec_here" 1340)]
def aOQ:Obj:=fz "_law_days_in" "_law_days_in" (tp 113)
def aME:Obj:=co [(.str "_law_days_in" 1330),(.str "_law_days_in" 1331),(sf 1332),(i 541),(i 4),(i 0),(i 0),(i 3),(r 819),(.bool true),(i 181),(r 820),.none,(r 821),(r 822),(r 823),(i 1341),(i 541),(sf 1342)]
def aMM:Obj:=fn "_law_days_in" "_law_days_in" (tp 113) 3 [] .none .none .none (.str "law_fivefields_k44_shut_by" 1197) none (r 824) .none 0
def aM0:Obj:=tu [(.str "_law_year" 1347)]
def aNL:Obj:=fz "_law_long" "_law_long" (tp 114)
def aOE:Obj:=co [(.str "_law_long" 1344),(.str "_law_long" 1345),(sf 1346),(i 552),(i 1),(i 0),(i 0),(i 3),(r 826),(.bool true),(i 181),(r 827),.none,(r 828),(r 829),(r 830),(i 1348),(i 552),(sf 1349)]
def aNZ:Obj:=fn "_law_long" "_law_long" (tp 114) 3 [] .none .none .none (.str "law_fivefields_k44_shut_by" 1197) none (r 831) .none 0
def aMW:Obj:=tu [(.str "_law_year" 1354)]
def aL9:Obj:=⟨.none,none,(.func ⟨"_law_before","_law_before",(ag (tp 115)),(.stmts (bd (tp 115))),(sc (tp 114)),0,[],.none,.none,.none,.none,none,.none,.none,0⟩),#[]⟩
def aMX:Obj:=co [(.str "_law_before" 1351),(.str "_law_before" 1352),(sf 1353),(i 554),(i 1),(i 0),(i 0),(i 3),(r 833),(.bool true),(i 181),(r 834),.none,(r 835),(r 836),(r 837),(i 1355),(i 554),(sf 1356)]
def aLR:Obj:=⟨(.type "function"),none,(.func ⟨"_law_before","_law_before",(ag (tp 115)),(.stmts (bd (tp 115))),(sc (tp 114)),3,[],.none,.none,.none,(.str "law_fivefields_k44_shut_by" 1197),none,(r 838),.none,0⟩),#[]⟩
def aM3:Obj:=tu [(.str "_law_year" 1361),(.str "_law_month" 1362)]
def aMQ:Obj:=fz "_law_last" "_law_last" (tp 116)
def aMR:Obj:=co [(.str "_law_last" 1358),(.str "_law_last" 1359),(sf 1360),(i 556),(i 2),(i 0),(i 0),(i 3),(r 840),(.bool true),(i 181),(r 841),.none,(r 842),(r 843),(r 844),(i 1363),(i 556),(sf 1364)]
def aOW:Obj:=fn "_law_last" "_law_last" (tp 116) 3 [] .none .none .none (.str "law_fivefields_k44_shut_by" 1197) none (r 845) .none 0
def aPE:Obj:=tu [(.str "_law_day" 1369),(.str "_law_rounds" 1370),(.str "_law_rest" 1371),(.str "_law_year" 1372),(.str "_law_month" 1373)]
def aMY:Obj:=fz "_law_date" "_law_date" (tp 117)
def aMF:Obj:=co [(.str "_law_date" 1366),(.str "_law_date" 1367),(sf 1368),(i 560),(i 1),(i 0),(i 0),(i 3),(r 847),(.bool true),(i 181),(r 848),.none,(r 849),(r 850),(r 851),(i 1374),(i 560),(sf 1375)]
def aPD:Obj:=fn "_law_date" "_law_date" (tp 117) 3 [] .none .none .none (.str "law_fivefields_k44_shut_by" 1197) none (r 852) .none 0
def aLU:Obj:=tu [(.str "_law_cell" 1380),(.str "_law_mixed" 1381),(.str "_law_far" 1382),(.str "_law_way" 1383),(.str "_law_near_here" 1384),(.str "_law_hundreds" 1385),(.str "_law_edge" 1386),(.str "_law_day" 1387),(.str "_law_time" 1388),(.str "_law_turn" 1389),(.str "_law_year" 1390),(.str "_law_moment_here" 1391)]
def aOX:Obj:=fz "_law_moment" "_law_moment" (tp 118)
def aO0:Obj:=co [(.str "_law_moment" 1377),(.str "_law_moment" 1378),(sf 1379),(i 571),(i 2),(i 0),(i 0),(i 3),(r 854),(.bool true),(i 181),(r 855),.none,(r 856),(r 857),(r 858),(i 1392),(i 571),(sf 1393)]
def aOF:Obj:=fn "_law_moment" "_law_moment" (tp 118) 3 [] .none .none .none (.str "law_fivefields_k44_shut_by" 1197) none (r 859) .none 0
def aNX:Obj:=tu [(.str "_law_row_here" 1398),(.str "_law_moment_here" 1399),(.str "_law_day" 1400),(.str "_law_rest" 1401),(.str "_law_year" 1402),(.str "_law_month" 1403),(.str "_law_date_here" 1404),(.str "_law_first_here" 1405)]
def aN1:Obj:=fz "_law_shut" "_law_shut" (tp 119)
def aNC:Obj:=co [(.str "_law_shut" 1395),(.str "_law_shut" 1396),(sf 1397),(i 580),(i 2),(i 0),(i 0),(i 3),(r 861),(.bool true),(i 181),(r 862),.none,(r 863),(r 864),(r 865),(i 1406),(i 580),(sf 1407)]
def aLV:Obj:=fn "_law_shut" "_law_shut" (tp 119) 3 [] .none .none .none (.str "law_fivefields_k44_shut_by" 1197) none (r 866) .none 0
def aON:Obj:=fz "_law_cells" "_law_cells" (tp 120)
def aNY:Obj:=co [(.str "_law_cells" 1409),(.str "_law_cells" 1410),(sf 1411),(i 593),(i 2),(i 0),(i 0),(i 3),(r 868),(.bool true),(i 181),(r 869),.none,.none,.none,(r 870),(i 1412),(i 593),(sf 1413)]
def aLX:Obj:=fn "_law_cells" "_law_cells" (tp 120) 3 [] .none .none .none (.str "law_fivefields_k44_shut_by" 1197) none (r 871) .none 0
def aM1:Obj:=tu [(.str "_law_found" 1418),(.str "_law_row_here" 1419),(.str "_law_moment_here" 1420),(.str "_law_told" 1421),(.str "_law_due" 1422)]
def aO2:Obj:=fz "_law_good" "_law_good" (tp 121)
def aMH:Obj:=co [(.str "_law_good" 1415),(.str "_law_good" 1416),(sf 1417),(i 595),(i 3),(i 0),(i 0),(i 3),(r 873),(.bool true),(i 181),(r 874),.none,(r 875),(r 876),(r 877),(i 1423),(i 595),(sf 1424)]
def aMK:Obj:=fn "_law_good" "_law_good" (tp 121) 3 [] .none .none .none (.str "law_fivefields_k44_shut_by" 1197) none (r 878) .none 0
def aLJ:Obj:=fz "_law_first" "_law_first" (tp 122)
def aL7:Obj:=co [(.str "_law_first" 1426),(.str "_law_first" 1427),(sf 1428),(i 601),(i 1),(i 0),(i 0),(i 3),(r 880),(.bool true),(i 181),(r 881),.none,.none,.none,(r 882),(i 1429),(i 601),(sf 1430)]
def aNW:Obj:=fn "_law_first" "_law_first" (tp 122) 3 [] .none .none .none (.str "law_fivefields_k44_shut_by" 1197) none (r 883) .none 0
def aO1:Obj:=tu [(.str "_law_script" 1435),(.str "_law_mixed" 1436),(.str "_law_text" 1437),(.str "_law_row_here" 1438),(.str "_law_found" 1439),(.str "_law_other" 1440),(.str "_law_later" 1441),(.str "_law_beside" 1442),(.str "_law_last_here" 1443),(.str "_law_hour" 1444),(.str "_law_k" 1445),(.str "_law_moment_here" 1446),(.str "_law_start" 1447),(.str "_law_one" 1448)]
def aO5:Obj:=fz "law" "law" (tp 123)
def aLW:Obj:=co [(.str "law" 1432),(.str "law" 1433),(sf 1434),(i 603),(i 1),(i 0),(i 0),(i 3),(r 885),(.bool true),(i 181),(r 886),.none,(r 887),(r 888),(r 889),(i 1449),(i 603),(sf 1450)]
def aOA:Obj:=fn "law" "law" (tp 123) 3 [] .none .none .none (.str "law_fivefields_k44_shut_by" 1197) none (r 890) .none 0
def t4(P:Params):BT:=(nd (boot_o_0 P) (nd (boot_o_1 P) (nd (aNB P) (nd (boot_o_7 P) (nd o0 (nd o16 (nd o38 (nd o78 (nd o1 (lf aK5) (lf aK6)) (nd aAE (lf aHU) .nil)) (nd o1 (nd aDI (lf aEX) (lf aOE)) (nd ayK (lf o0) .nil))) (nd o59 (nd o0 (nd aBT (lf o1) (lf aOR)) (nd az8 (lf aJG) .nil)) (nd axB (nd o0 (lf aHY) (lf aNX)) (nd o0 (lf aIS) .nil)))) (nd o20 (nd o48 (nd o0 (nd o0 (lf aI8) (lf o0)) (nd o1 (lf aIM) .nil)) (nd awG (nd aBL (lf o0) (lf o0)) (nd azB (lf aGV) .nil))) (nd o68 (nd av4 (nd o0 (lf o0) (lf o1)) (nd o0 (lf o1) .nil)) (nd axO (nd ayX (lf o0) (lf aMK)) (nd aFE (lf aH9) .nil))))) (nd o11 (nd o1 (nd o43 (nd o82 (nd awF (lf o0) (lf aM9)) (nd o0 (lf o0) .nil)) (nd avP (nd o0 (lf aK8) (lf aLR)) (nd aCK (lf aEF) .nil))) (nd o0 (nd o1 (nd aAU (lf aIA) (lf o0)) (nd aA9 (lf o0) .nil)) (nd axQ (nd o1 (lf aI1) (lf aNY)) (nd aHD (lf o0) .nil)))) (nd o1 (nd o54 (nd o91 (nd aBR (lf o0) (lf o1)) (nd aBK (lf aKA) .nil)) (nd o1 (nd abP (lf o1) (lf o1)) (nd (aH6 P) (lf aJ9) .nil))) (nd o73 (nd auW (nd o11 (lf aGQ) (lf aOQ)) (nd o0 (lf aIU) .nil)) (nd o0 (nd aAV (lf o11) (lf aO1)) (nd o11 (lf aGA) .nil)))))) (nd o0 (nd o7 (nd o20 (nd o11 (nd o80 (nd auG (lf aF6) (lf aMB)) (nd o0 (lf aKT) .nil)) (nd ax4 (nd aA1 (lf aHA) (lf aMW)) (nd o1 (lf aEJ) .nil))) (nd o62 (nd o98 (nd ayF (lf aG0) (lf o0)) (nd aBB (lf o0) .nil)) (nd axM (nd aBS (lf aHS) (lf aLV)) (nd o0 (lf aJW) .nil)))) (nd o29 (nd o52 (nd o0 (nd o0 (lf (aHZ P)) (lf aOD)) (nd ayU (lf o1) .nil)) (nd awI (nd (aCP P) (lf aGN) (lf aMY)) (nd aDE (lf aLA) .nil))) (nd o1 (nd o1 (nd aAW (lf o0) (lf o0)) (nd aC9 (lf aEQ) .nil)) (nd o0 (nd azP (lf aJK) (lf aL7)) (nd aG1 (lf o1) .nil))))) (nd o13 (nd (o24 P) (nd o45 (nd o85 (nd awT (lf o0) (lf o1)) (nd az0 (lf o0) .nil)) (nd o1 (nd o0 (lf o0) (lf o0)) (nd aBP (lf o1) .nil))) (nd o0 (nd avQ (nd o0 (lf aIB) (lf aOV)) (nd o0 (lf aHN) .nil)) (nd auE (nd azV (lf o0) (lf aM1)) (nd o1 (lf o0) .nil)))) (nd o34 (nd o57 (nd o1 (nd o11 (lf aE7) (lf o0)) (nd o11 (lf aJH) .nil)) (nd awN (nd aC6 (lf aIX) (lf aO0)) (nd aIL (lf aFI) .nil))) (nd o75 (nd auM (nd aCM (lf o1) (lf o1)) (nd o0 (lf aIO) .nil)) (nd ax2 (nd (az6 P) (lf aJ1) (lf aOA)) (nd aK2 (lf aF1) .nil))))))) (nd (boot_o_5 P) (nd (boot_o_9 P) (nd o6 (nd o18 (nd o40 (nd o1 (nd o0 (lf aEZ) (lf o1)) (nd o1 (lf aE9) .nil)) (nd o0 (nd ayY (lf o0) (lf o0)) (nd ayP (lf aK1) .nil))) (nd o60 (nd o97 (nd o0 (lf o0) (lf o1)) (nd o0 (lf o1) .nil)) (nd avM (nd aA4 (lf aIQ) (lf aN1)) (nd aFN (lf aEN) .nil)))) (nd (o28 P) (nd (o50 P) (nd o88 (nd at8 (lf aIJ) (lf aNQ)) (nd o0 (lf aJL) .nil)) (nd o0 (nd aA7 (lf aG7) (lf aPE)) (nd (azR P) (lf o0) .nil))) (nd o70 (nd at9 (nd aH5 (lf aKU) (lf aNK)) (nd aBW (lf o0) .nil)) (nd o1 (nd aDC (lf aIG) (lf o1)) (nd aGH (lf aGF) .nil))))) (nd o0 (nd o23 (nd o0 (nd o83 (nd au1 (lf aJC) (lf aML)) (nd aAK (lf aKZ) .nil)) (nd aw0 (nd aB4 (lf o1) (lf o1)) (nd o0 (lf aJ2) .nil))) (nd o65 (nd o0 (nd o1 (lf aGS) (lf aOY)) (nd o1 (lf aF7) .nil)) (nd o0 (nd o0 (lf o1) (lf o0)) (nd aKC (lf aHR) .nil)))) (nd o0 (nd o55 (nd o93 (nd ayM (lf aKD) (lf aL4)) (nd aAG (lf o0) .nil)) (nd o0 (nd (aAP P) (lf o0) (lf o0)) (nd aGW (lf o1) .nil))) (nd o0 (nd o0 (nd o0 (lf aJF) (lf aMM)) (nd aAY (lf aER) .nil)) (nd auC (nd abP (lf o0) (lf aO5)) (nd o0 (lf o0) .nil)))))) (nd o2 (nd o9 (nd (o21 P) (nd o0 (nd o0 (nd o0 (lf o1) (lf o0)) (nd aB1 (lf o1) .nil)) (nd o0 (nd o1 (lf aF8) (lf aL9)) (nd o0 (lf aEW) .nil))) (nd o1 (nd avX (nd aBE (lf o0) (lf aMZ)) (nd aC7 (lf aH0) .nil)) (nd o1 (nd ax9 (lf aKQ) (lf o1)) (nd aEI (lf o1) .nil)))) (nd o31 (nd o0 (nd o90 (nd aCJ (lf aID) (lf aLH)) (nd aCR (lf o0) .nil)) (nd av3 (nd aCU (lf aKI) (lf aPD)) (nd abP (lf aJN) .nil))) (nd o0 (nd o0 (nd ay8 (lf aFO) (lf aMS)) (nd o11 (lf o0) .nil)) (nd at6 (nd (aDG P) (lf aH3) (lf o0)) (nd aH7 (lf o0) .nil))))) (nd o0 (nd o26 (nd o46 (nd o1 (nd o1 (lf aGB) (lf aO7)) (nd ayO (lf aEK) .nil)) (nd o0 (nd aAJ (lf aEM) (lf aMR)) (nd aC0 (lf o0) .nil))) (nd o67 (nd o0 (nd aCB (lf o1) (lf aNP)) (nd ay2 (lf aEL) .nil)) (nd ax6 (nd o0 (lf aE2) (lf aO2)) (nd o0 (lf aFC) .nil)))) (nd o36 (nd o0 (nd o95 (nd o0 (lf aEH) (lf aLY)) (nd o0 (lf aF4) .nil)) (nd o0 (nd aAN (lf o0) (lf o0)) (nd o1 (lf o0) .nil))) (nd o76 (nd axR (nd o0 (lf o0) (lf o0)) (nd ayW (lf o1) .nil)) (nd avV (nd aB0 (lf o0) .nil) (nd o0 (lf aH1) .nil)))))))) (nd (boot_o_2 P) (nd (boot_o_4 P) (nd (boot_o_8 P) (nd o1 (nd o17 (nd o39 (nd o0 (nd auR (lf o0) (lf o0)) (nd o0 (lf o0) .nil)) (nd av0 (nd o0 (lf aHG) (lf aNZ)) (nd azX (lf aJ5) .nil))) (nd o0 (nd o1 (nd aB9 (lf aLG) (lf o0)) (nd ayV (lf o0) .nil)) (nd o0 (nd o1 (lf o0) (lf o0)) (nd aJR (lf o0) .nil)))) (nd o11 (nd o49 (nd o87 (nd axT (lf aFP) (lf o1)) (nd ayL (lf aJQ) .nil)) (nd awW (nd azY (lf o1) (lf o1)) (nd azS (lf aF0) .nil))) (nd o69 (nd axE (nd (azG P) (lf aET) (lf aO4)) (nd (aBO P) (lf aGT) .nil)) (nd o0 (nd o0 (lf o1) (lf o0)) (nd aGR (lf aIY) .nil))))) (nd (o12 P) (nd o22 (nd o44 (nd o0 (nd o0 (lf aI3) (lf aMD)) (nd o1 (lf aKX) .nil)) (nd axN (nd ay4 (lf o0) (lf o0)) (nd ay7 (lf aG9) .nil))) (nd o64 (nd aw8 (nd o0 (lf o0) (lf o1)) (nd o0 (lf o1) .nil)) (nd avA (nd aBH (lf o0) (lf aLX)) (nd aES (lf aHM) .nil)))) (nd o32 (nd o0 (nd o92 (nd azH (lf o1) (lf aMJ)) (nd azK (lf aHB) .nil)) (nd awV (nd o11 (lf aGC) (lf aLU)) (nd o0 (lf o0) .nil))) (nd o74 (nd at3 (nd (azA P) (lf aI4) (lf aME)) (nd azD (lf o0) .nil)) (nd o1 (nd aA6 (lf (aK7 P)) (lf o0)) (nd (aKR P) (lf aF2) .nil)))))) (nd aLQ (nd o8 (nd o11 (nd (o41 P) (nd o81 (nd axU (lf o0) (lf aOJ)) (nd aBU (lf o0) .nil)) (nd au4 (nd o0 (lf o0) (lf o0)) (nd aBY (lf (aEO P)) .nil))) (nd o0 (nd o99 (nd o0 (lf aFY) (lf aL3)) (nd o0 (lf aIC) .nil)) (nd o0 (nd aC4 (lf aG3) (lf o0)) (nd o1 (lf o0) .nil)))) (nd o30 (nd o53 (nd o1 (nd o1 (lf aFU) (lf aL6)) (nd ayJ (lf aE0) .nil)) (nd au8 (nd aCL (lf aHL) (lf aMF)) (nd ayN (lf o0) .nil))) (nd o71 (nd awJ (nd aB2 (lf o1) (lf o1)) (nd abP (lf aLB) .nil)) (nd avK (nd aA5 (lf aIR) (lf aNW)) (nd aJI (lf aKY) .nil))))) (nd o14 (nd o25 (nd o0 (nd o0 (nd o0 (lf o1) (lf aOL)) (nd ayG (lf o1) .nil)) (nd avW (nd o1 (lf aFF) (lf aMQ)) (nd o0 (lf aGU) .nil))) (nd o1 (nd auT (nd aBF (lf o0) (lf aNV)) (nd ayH (lf aH2) .nil)) (nd o0 (nd ay6 (lf aG4) (lf o0)) (nd aGJ (lf o1) .nil)))) (nd o35 (nd o58 (nd o94 (nd (aAO P) (lf aFV) (lf o1)) (nd (azZ P) (lf o0) .nil)) (nd awY (nd az2 (lf aG2) (lf aOF)) (nd o0 (lf aE4) .nil))) (nd o0 (nd au2 (nd aA2 (lf aLE) (lf aM0)) (nd o1 (lf o0) .nil)) (nd ax0 (nd o0 (lf aFZ) .nil) (nd aEU (lf o0) .nil))))))) (nd (boot_o_6 P) (nd (boot_o_10 P) (nd o0 (nd o19 (nd o20 (nd o79 (nd av7 (lf aKJ) (lf aPB)) (nd azU (lf aJ8) .nil)) (nd avG (nd az3 (lf o1) (lf o1)) (nd o0 (lf aFD) .nil))) (nd o61 (nd o0 (nd o1 (lf aIE) (lf aN7)) (nd o1 (lf aE3) .nil)) (nd aw1 (nd o0 (lf aFQ) (lf aNC)) (nd aHX (lf aHJ) .nil)))) (nd o0 (nd o51 (nd o89 (nd avU (lf aJ4) (lf o0)) (nd aC2 (lf o0) .nil)) (nd o1 (nd az7 (lf o0) (lf o0)) (nd aCQ (lf o1) .nil))) (nd o0 (nd o0 (nd aAI (lf aGE) (lf aLM)) (nd azC (lf aI2) .nil)) (nd auK (nd ay1 (lf o0) (lf aLJ)) (nd (aHK P) (lf o0) .nil))))) (nd o1 (nd o0 (nd o1 (nd o84 (nd avF (lf aKW) (lf o0)) (nd o0 (lf aFA) .nil)) (nd o0 (nd aC8 (lf aKG) (lf aM3)) (nd o1 (lf o0) .nil))) (nd o66 (nd av8 (nd aCO (lf aE1) (lf o0)) (nd azQ (lf o0) .nil)) (nd o1 (nd aBA (lf aKF) (lf o1)) (nd o0 (lf aIW) .nil)))) (nd o33 (nd o56 (nd o0 (nd o0 (lf o0) (lf aNS)) (nd abP (lf o1) .nil)) (nd auO (nd o0 (lf aFK) (lf aOX)) (nd aI7 (lf aJP) .nil))) (nd o1 (nd o1 (nd az5 (lf o0) (lf o0)) (nd aCV (lf aJA) .nil)) (nd o0 (nd o11 (lf aGM) (lf aLW)) (nd aKB (lf o1) .nil)))))) (nd o3 (nd o10 (nd o0 (nd o42 (nd o1 (nd o1 (lf aJJ) (lf o1)) (nd aCF (lf aG5) .nil)) (nd o1 (nd aAB (lf aFW) (lf aMX)) (nd aCY (lf aIZ) .nil))) (nd o63 (nd o0 (nd az1 (lf o1) (lf aOU)) (nd az4 (lf aJS) .nil)) (nd au0 (nd o0 (lf aHQ) (lf aON)) (nd o0 (lf aGD) .nil)))) (nd o0 (nd o1 (nd o0 (nd o0 (lf aHF) (lf o0)) (nd (aC3 P) (lf aFL) .nil)) (nd o0 (nd ayS (lf o0) (lf o0)) (nd o11 (lf aKL) .nil))) (nd o72 (nd aw6 (nd abP (lf o0) (lf o0)) (nd (ayB P) (lf o1) .nil)) (nd aw2 (nd aBQ (lf o0) (lf o1)) (nd abP (lf aF3) .nil))))) (nd (o15 P) (nd o27 (nd o47 (nd o86 (nd awQ (lf o0) (lf aNE)) (nd o0 (lf o0) .nil)) (nd ax3 (nd o0 (lf aKN) (lf aOW)) (nd aBG (lf aEG) .nil))) (nd o0 (nd o1 (nd aCH (lf aGZ) (lf o0)) (nd aA8 (lf o0) .nil)) (nd avR (nd o1 (lf aLF) (lf aMH)) (nd aK3 (lf o0) .nil)))) (nd (o37 P) (nd o1 (nd o96 (nd ayC (lf o0) (lf aOB)) (nd aB3 (lf aI0) .nil)) (nd o1 (nd ayQ (lf o1) (lf o1)) (nd aEE (lf o1) .nil))) (nd o77 (nd o0 (nd o1 (lf aHT) (lf aNL)) (nd o0 (lf aGP) .nil)) (nd o0 (nd azT (lf o1) .nil) (nd o1 (lf aF5) .nil)))))))))
def s4(w:World)(os:OsState):SharedT:=⟨t4 w.params,892,⟨[],[],[],0,[],[],false,#[],[],0,false,false,false,0,[2000,10,10],false,0,true,[],[],0,false⟩,#[],⟨0,0,0,0⟩,1452,os⟩
def l3:List Stmt:=(bi.drop 104).take 20
theorem r3(w:World)(os:OsState):
  segRunT treeTable pw w 11 an 1 630 (s3 w os) (piecesOf l3 ev cd ⟨446,0,459,83⟩ bk) =
  some (.next,s4 w os,cd,⟨603,0,617,15⟩):=by kernel_rfl
def hF(P:Params):Heap:=⟨⟨[(boot_o_0 P),(boot_o_1 P),(boot_o_2 P),(aNB P),(boot_o_4 P),(boot_o_5 P),(boot_o_6 P),(boot_o_7 P),(boot_o_8 P),(boot_o_9 P),(boot_o_10 P),o0,aLQ,o2,o3,o0,o1,o6,o0,o7,o8,o9,o10,o11,(o12 P),o0,o1,o13,o14,o0,(o15 P),o16,o17,o18,o19,o20,o11,(o21 P),o0,o1,o22,o23,o0,(o24 P),o25,o26,o27,o20,o11,(o28 P),o0,o29,o30,o31,o0,o1,o32,o0,o33,o34,o35,o36,(o37 P),o38,o39,o40,o20,o11,(o41 P),o0,o42,o43,o44,o0,o1,o45,o0,o46,o47,o48,o49,(o50 P),o51,o52,o53,o0,o1,o54,o0,o55,o56,o57,o58,o0,o1,o59,o0,o60,o61,o62,o0,o1,o63,o0,o64,o65,o66,o0,o1,o67,o0,o68,o69,o70,o0,o1,o71,o0,o72,o73,o74,o0,o1,o75,o0,o76,o77,o78,o0,o1,o79,o80,o81,o0,o1,o82,o0,o83,o84,o85,o0,o1,o86,o0,o87,o88,o89,o0,o1,o90,o0,o91,o92,o93,o0,o1,o94,o95,o96,o0,o1,o97,o0,o98,o99,avX,o0,o1,aw8,o0,av8,avQ,auT,o0,o1,av4,axE,at9,o0,o1,awJ,o0,aw6,auW,at3,o0,o1,auM,au2,axR,o0,o1,av0,o0,avG,ax4,au4,o0,o1,avP,axN,aw0,o0,o1,avW,o0,ax3,awG,awW,o0,o1,awI,au8,av3,o0,o1,awV,o0,auO,awN,awY,o0,o1,axB,o0,avM,aw1,axM,o0,o1,au0,axQ,avA,o0,o1,auE,o0,ax6,avR,axO,o0,o1,auK,o0,avK,at6,aw2,o0,o1,auC,o0,ax2,ax0,avV,o0,o1,auR,o0,av7,auG,axU,o0,o1,awF,o0,au1,avF,awT,o0,o1,awQ,o0,axT,at8,avU,o0,o1,aCJ,o0,aBR,azH,ayM,o0,o11,(aAO P),o0,ayC,aBT,aB9,o0,o1,ayF,o0,aBE,az1,aAU,o0,o1,aCO,o0,aBF,aCB,aCH,o0,(azG P),aH5,aAI,aAW,aB2,ay8,abP,o11,(azA P),o0,az5,aCM,aA2,o0,o1,aDI,o0,ayY,az3,aA1,o0,o1,aAB,o0,ay4,aB4,aC8,o0,o1,aAJ,o0,aBL,azY,aA7,az7,(aCP P),aCL,aCU,ayS,abP,o11,(aAP P),o0,aC6,az2,aAN,ayQ,o0,o1,aA4,o0,aBS,aC4,ax9,o0,o1,aBH,o0,aBA,azV,ay6,o0,o1,ayX,o0,aDC,ay1,azP,aA5,(aDG P),aBQ,aAV,aA6,abP,o11,(az6 P),o0,aB0,azT,aAE,o0,o1,azU,o0,aBU,aB1,aCF,o0,o1,aAK,o0,az0,ayG,ayO,o0,o1,ayL,o0,aC2,ayU,ayJ,aCR,(aC3 P),aBK,azK,aAG,abP,o11,(azZ P),o0,aB3,az8,ayV,o0,o1,aBB,o0,aC7,az4,aA9,o0,o1,azQ,o0,ayH,ay2,aA8,o0,(aBO P),aBW,azC,aC9,abP,o11,(ayB P),o0,azD,aAY,aCV,o0,o1,ayW,o0,ayK,azX,ayP,o0,o1,aBY,o0,aCY,aCK,ay7,o0,o1,aBP,o0,aC0,aBG,azB,azS,(azR P),aCQ,aDE,ayN,abP,o11,(aH6 P),o0,aGW,aI7,aIL,o0,o1,aEE,o0,aJR,aFN,aHX,o0,o1,aEI,o0,aHD,aES,aKC,o0,o1,aGJ,o0,aK3,aFE,aGR,aGH,(aHK P),aG1,aJI,aH7,abP,o11,(aKR P),o0,aKB,aK2,aEU,o0,o1,aK5,o0,aEZ,aKJ,aF6,o0,o1,aJJ,o0,aI3,aJC,aKW,o0,o1,aGB,o0,aI8,aFP,aIJ,aJ4,(aHZ P),aFU,aID,aHF,o0,o1,aKD,o0,aE7,aFV,aEH,o0,o1,aLG,o0,aIE,aG0,aFY,o0,o1,aIA,o0,aGS,aE1,aIB,o0,o1,aGZ,o0,aET,aKU,aGE,o0,o1,aFO,o0,aGQ,aI4,aJF,o0,o1,aLE,o0,aHT,aEX,aHG,o0,o1,aHA,o0,aF8,aFW,aK8,o0,o1,aKG,o0,aFF,aEM,aKN,o0,o1,aG7,o0,aGN,aHL,aKI,o0,o1,aGC,o0,aFK,aIX,aG2,o0,o1,aHY,o0,aIQ,aFQ,aHS,aG3,aKQ,aHQ,aI1,o0,o1,aKF,o0,aG4,aE2,aLF,o0,o1,aIG,o0,aJK,aIR,aH3,o0,o11,(aK7 P),o0,aGM,aJ1,aFZ,o0,o1,aHU,o0,aE9,aJ8,aKT,o0,o1,aG5,o0,aKX,aKZ,aFA,o0,o1,aEK,o0,aIM,aJQ,aJL,o0,o1,aE0,o0,aFL,aKA,aHB,o0,o1,aJH,o0,aF4,aI0,aJG,o0,o1,aE3,o0,aIC,aH0,aJS,o0,o1,aF7,o0,aHN,aH2,aEL,o0,o1,aGT,o0,aI2,aEQ,aLB,o0,o1,aIU,o0,aER,aJA,aIO,o0,o1,aGP,o0,aJ5,aK1,aFD,aEJ,(aEO P),aEW,aIZ,aEF,aG9,aJ2,o0,o1,aGU,o0,aEG,aGV,aF0,o0,o1,aLA,o0,aJN,aKL,aJ9,o0,o1,aJP,aFI,aE4,o0,o1,aIS,o0,aEN,aHJ,aJW,o0,o1,aGD,o0,aHM,aHR,aIW,o0,o1,aFC,o0,aH9,aIY,aGF,o0,o1,aKY,o0,aF3,aGA,aF2,o0,o1,aF1,o0,aH1,aF5,aK6,o0,o1,aPB,aMB,aOJ,o0,o1,aM9,aMD,aML,o0,o1,aOL,aO7,aNE,o0,o1,aNQ,o0,aOD,aL6,aLH,o0,o1,aMJ,aL4,aNS,o0,o1,aLY,aOB,aOR,o0,o1,aN7,o0,aL3,aMZ,aOU,o0,o1,aOY,o0,aOV,aNV,aNP,o0,o1,aO4,aNK,aLM,o0,o1,aMS,o0,aOQ,aME,aMM,o0,o1,aM0,o0,aNL,aOE,aNZ,o0,o1,aMW,o0,aL9,aMX,aLR,o0,o1,aM3,o0,aMQ,aMR,aOW,o0,o1,aPE,o0,aMY,aMF,aPD,o0,o1,aLU,o0,aOX,aO0,aOF,o0,o1,aNX,o0,aN1,aNC,aLV,o0,o1,aON,aNY,aLX,o0,o1,aM1,o0,aO2,aMH,aMK,o0,o1,aLJ,aL7,aNW,o0,o1,aO1,o0,aO5,aLW,aOA]⟩,⟨[],[],[],0,[],[],false,#[],[],0,false,false,false,0,[2000,10,10],false,0,true,[],[],0,false⟩⟩
def sF(w:World)(os:OsState):Shared:=⟨hF w.params,#[],⟨0,0,0,0⟩,1452,os⟩
theorem fin(w:World)(os:OsState):
  topRun treeTable pw w 11 an 2 (s4 w os).abs (restOf [] ev cd ⟨603,0,617,15⟩ bk) =
  some (sF w os):=by kernel_rfl
theorem bis:bi=(l0++(l1++(l2++(l3++[])))):=by kernel_rfl
theorem run(w:World)(os:OsState):topRun treeTable pw w 11 an (12+(1+(1991+(1800+(1997+(630+(2))))))) ⟨boot_heap w.params,⟨[]⟩,boot_drawn,boot_toks,os⟩ (topStub pw)=some (sF w os):=by
 refine go_top (pre w os) (piece_block (blk w os) ?_)
 rw[bis]
 exact (piece_app (segRun_of (r0 w os)) (piece_app (segRun_of (r1 w os)) (piece_app (segRun_of (r2 w os)) (piece_app (segRun_of (r3 w os)) (fin w os)))))
theorem opn:∀w:World,(fencedOpening treeTable pw w 12954).map (fun s=>(s.heap,s.gens,s.drawn,s.toks))=some (boot_heap w.params,⟨[]⟩,boot_drawn,boot_toks):=
 boot_open (by kernel_rfl) rfl (fun s=>by kernel_rfl)
theorem siz(w:World):((boot_heap w.params).isNs mainGlobals&&(⟨[]⟩:Array GenState).size==0,(boot_heap w.params).objs.size,(boot_heap w.params).nsMap mainGlobals "__annotations__")=(true,11,an):=by kernel_rfl
end
end
theorem aOM{q:Program}{loose mods:List Str}{Xt:Shared->Bool}{s:Shared}
  (e1:seen ((recsOf q).map (·.name)) (ownsOf q) [] {s with gens:= #[]}=expectedOf q) (e2:s.heap.bltView=bltViewBooted)
  (a1:s.heap.keysOk (looseW q loose) ((recsOf q).map (·.name)) ((litsOf q).map (·.1)) ((clssOf q (looseW q loose)).map (·.name))=true)
  (a2:s.heap.accountedOkI mods=true) (a3:s.heap.isNs mainGlobals=true) (a4:s.heap.isNs builtinsNs=true)
  (a5:tablesOk q s.heap=true) (a6:Xt s=true) (a7:(s.gens.size==0)=true) (e4:tabsOk q s=true)
  (e5:pinSeenD q (drecsOf q) s=pinGoodD (drecsOf q)) (e6:plainSeenE q (looseW q loose) s=plainGoodE q (looseW q loose))
  (e7:plainSeenD q loose s=plainGoodD q loose) (e8:wideSeen q s=wideGood q) (e9:clsSeenW q loose s=clsGoodW q loose):
  openSeen q loose mods Xt true s=openGood q loose:=by
 unfold openSeen openGood
 rw[e1,e2,a1,a2,a3,a4,a5,a6,if_pos rfl,a7,e4,e5,e6,e7,e8,e9];rfl
noncomputable def seenBy:Program:=view PySem.Challenge.pw_fivefields_k44_shut_by [0,2,3,4,5,7,9,10,11,12,13,14,15,16,17,18,19,20,22,23,24,26,27,28,29,30,31,33,34,35,36,37,38,39,40,41,42,43,45,46,47,48,49,50,51,52,53,54,55,56,57,58,59,60,61,62,63,64,65,66,67,68,69,70,71,73,74,75,77,78,79,80,81,82,84,85,86,87,88,89,90,91,92,93,94,95,96,97,99,100,101,102,103,104,105,106,107,108,109,110,111,112,113,114,115,116,117,118,119,120,121,122,123]
noncomputable def free:List Str:=[Str.ofString "Last",Str.ofString "BOUNDS"]
noncomputable def read:List (Str×WData):=[]
section
set_option maxHeartbeats 0
set_option maxRecDepth 100000
noncomputable section
def XT:Shared->Bool:=fun z=>xlAt seenBy read z&&recOk (RowW.records (OpenRow.toRowW (OpenLaw.row PySem.Challenge.rw_fivefields_k44_shut_by))) z
abbrev SE(w:World)(os:OsState):=openSeen seenBy free (importedModules pw.main.body) XT true (sF w os)
section
variable(w:World)(os:OsState)
theorem z1:seen ((recsOf seenBy).map (·.name)) (ownsOf seenBy) [] {sF w os with gens:= #[]}=expectedOf seenBy:=by kernel_rfl
theorem z2:(sF w os).heap.bltView=bltViewBooted:=by kernel_rfl
theorem y1:(sF w os).heap.keysOk (looseW seenBy free) ((recsOf seenBy).map (·.name)) ((litsOf seenBy).map (·.1)) ((clssOf seenBy (looseW seenBy free)).map (·.name))=true:=by kernel_rfl
theorem y2:(sF w os).heap.accountedOkI (importedModules pw.main.body)=true:=by kernel_rfl
theorem y3:(sF w os).heap.isNs mainGlobals=true:=by kernel_rfl
theorem y4:(sF w os).heap.isNs builtinsNs=true:=by kernel_rfl
theorem y5:tablesOk seenBy (sF w os).heap=true:=by kernel_rfl
theorem y6:XT (sF w os)=true:=by kernel_rfl
theorem y7:((sF w os).gens.size==0)=true:=by kernel_rfl
theorem z4:tabsOk seenBy (sF w os)=true:=by kernel_rfl
theorem z5:pinSeenD seenBy (drecsOf seenBy) (sF w os)=pinGoodD (drecsOf seenBy):=by kernel_rfl
theorem z6:plainSeenE seenBy (looseW seenBy free) (sF w os)=plainGoodE seenBy (looseW seenBy free):=by kernel_rfl
theorem z7:plainSeenD seenBy free (sF w os)=plainGoodD seenBy free:=by kernel_rfl
theorem z8:wideSeen seenBy (sF w os)=wideGood seenBy:=by kernel_rfl
theorem z9:clsSeenW seenBy free (sF w os)=clsGoodW seenBy free:=by kernel_rfl
theorem look:SE w os=openGood seenBy free:=aOM (q:=seenBy) (loose:=free) (mods:=importedModules pw.main.body) (Xt:=XT) (s:=sF w os) (z1 w os) (z2 w os) (y1 w os) (y2 w os) (y3 w os) (y4 w os) (y5 w os) (y6 w os) (y7 w os) (z4 w os) (z5 w os) (z6 w os) (z7 w os) (z8 w os) (z9 w os)
end
theorem lk0(w:World)(os:OsState):(staticsOk (importedModules pw.main.body) (boot_heap w.params) (hF w.params)&&namesBound pw (hF w.params)
  &&gensDone (sF w os)&&laidKept (boot_heap w.params) (hF w.params))=true:=by kernel_rfl
end
end
end Hd
set_option Elab.async false
set_option linter.all false
set_option maxRecDepth 100000
namespace L2
open PySem PySem.Spec PyProof.Rows
abbrev Key:=Sum Int Str
def alO:Key->Value->Bool
 |.inl k,v=>Value.isInt k v
 |.inr x,v=>Value.isStrOf x v
def keyH(w:World):Key->Int
 |.inl k=>hashInt k
 |.inr x=>hashStr w x
theorem aa1:∀{k:Key} {v:Value},alO k v=true->(∃i t,k=Sum.inl i/\v=Value.int i t)∨(∃x t,k=Sum.inr x/\v=Value.str x t)
 |.inl i,v,h=>by
  obtain⟨t,e⟩:=Value.isInt_shape (k:=i) (v:=v) h
  exact .inl ⟨i,t,rfl,e⟩
 |.inr x,v,h=>by
  obtain⟨t,e⟩:=Value.isStrOf_shape (x:=x) (v:=v) h
  exact .inr ⟨x,t,rfl,e⟩
theorem atT(i:Int)(t:Tok):alO (.inl i) (.int i t)=true:=by simp[alO,Value.isInt]
theorem atN(x:Str)(t:Tok):alO (.inr x) (.str x t)=true:=by simp[alO,Value.isStrOf]
theorem aH8(a b:Int):decide ((Sum.inl a:Key)=Sum.inl b)=(a==b):=by
 by_cases e:a=b
 ·subst e;simp
 ·have h:¬(Sum.inl a:Key)=Sum.inl b:=fun q=>e (Sum.inl.inj q)
  rw[decide_eq_false h]
  exact (beq_eq_false_iff_ne.mpr e).symm
theorem aJX(a b:Str):decide ((Sum.inr a:Key)=Sum.inr b)=decide (a=b):=by
 by_cases e:a=b
 ·subst e;simp
 ·have h:¬(Sum.inr a:Key)=Sum.inr b:=fun q=>e (Sum.inr.inj q)
  rw[decide_eq_false h,decide_eq_false e]
theorem aKH(a:Int)(b:Str):decide ((Sum.inl a:Key)=Sum.inr b)=false:=decide_eq_false (fun q=>nomatch q)
theorem aHE(a:Str)(b:Int):decide ((Sum.inr a:Key)=Sum.inl b)=false:=decide_eq_false (fun q=>nomatch q)
def ab5(prog:Program)(w:World):PySem.KeyKind prog w Key where
 is:=alO
 hash:=keyH w
 inj:=fun v a b ha hb=>by
  rcases aa1 ha with ⟨i,t,rfl,rfl⟩ | ⟨x,t,rfl,rfl⟩
  ·rcases aa1 hb with ⟨j,u,rfl,e⟩ | ⟨y,u,rfl,e⟩
   ·injection e with e1 _;rw[e1]
   ·exact nomatch e
  ·rcases aa1 hb with ⟨j,u,rfl,e⟩ | ⟨y,u,rfl,e⟩
   ·exact nomatch e
   ·injection e with e1 _;rw[e1]
 byValue:=fun k v h=>by
  rcases aa1 h with ⟨i,t,rfl,rfl⟩ | ⟨x,t,rfl,rfl⟩<;>rfl
 pyHash:=fun hv h=>by
  rcases aa1 hv with ⟨i,t,rfl,rfl⟩ | ⟨x,t,rfl,rfl⟩
  ·exact wpAny_pyHash_int h
  ·exact wpAny_pyHash_str h
 eqBool:=fun hu hv h=>by
  rcases aa1 hu with ⟨i,t,rfl,rfl⟩ | ⟨x,t,rfl,rfl⟩
  ·rcases aa1 hv with ⟨j,u,rfl,rfl⟩ | ⟨y,u,rfl,rfl⟩
   ·rw[aH8] at h;exact wpAny_eqBool_int h
   ·rw[aKH] at h;exact SeqAt.EqAt.int_str i t y u _ _ _ _ h
  ·rcases aa1 hv with ⟨j,u,rfl,rfl⟩ | ⟨y,u,rfl,rfl⟩
   ·rw[aHE] at h;exact SeqAt.EqAt.str_int x t j u _ _ _ _ h
   ·rw[aJX] at h;exact wpAny_eqBool_str h
 «strs»:=fun k x t v h=>by
  rcases aa1 h with ⟨i,u,rfl,e⟩ | ⟨y,u,rfl,e⟩
  ·exact nomatch e
  ·injection e with e1 _
   subst e1
   cases v<;>rfl
theorem aoH(prog:Program)(w:World)(i:Int)(t:Tok):(ab5 prog w).is (.inl i) (.int i t)=true:=atT i t
theorem apN(prog:Program)(w:World)(x:Str)(t:Tok):(ab5 prog w).is (.inr x) (.str x t)=true:=atN x t
inductive V where
 |non | bl (b:Bool) | int (i:Int) | str (x:Str) | byt (b:Array UInt8) | flt (b:UInt64) | ref (a:Addr) | ty (n:String)
 deriving DecidableEq
def RelV:V->Value->Prop
 |.non,u=>u=Value.none
 |.bl b,u=>u=Value.bool b
 |.int i,u=>∃t,u=Value.int i t
 |.str x,u=>∃t,u=Value.str x t
 |.byt b,u=>∃t,u=Value.bytes b t
 |.flt b,u=>∃t,u=Value.float b t
 |.ref a,u=>u=Value.ref a
 |.ty n,u=>u=Value.type n
abbrev Vals:List V->List Value->Prop:=Paired RelV
theorem Vals.length{xs:List V}{us:List Value}(r:Vals xs us):xs.length=us.length:=Paired.length r
theorem Vals.get:∀{xs:List V} {us:List Value} {i:Nat} {x:V},Vals xs us->xs[i]? =some x->∃u,us[i]? =some u/\RelV x u
 |_,_,_,_,.nil,e=>by simp at e
 |_,_,0,_,.cons r _,e=>by simp at e;subst e;exact⟨_,rfl,r⟩
 |_,_,i+1,x,.cons _ t,e=>by
  obtain⟨u,h1,h2⟩:=Vals.get (i:=i) (x:=x) t (by simpa using e)
  exact⟨u,by simpa using h1,h2⟩
theorem Vals.set{x:V}{u:Value}(r:RelV x u):∀{xs:List V} {us:List Value} (i:Nat),Vals xs us->Vals (xs.set i x) (us.set i u)
 |_,_,_,.nil=>.nil
 |_,_,0,.cons _ t=>.cons r t
 |_,_,i+1,.cons q t=>.cons q (Vals.set r i t)
theorem Vals.append:∀{xs ys:List V} {us ws:List Value},Vals xs us->Vals ys ws->Vals (xs++ys) (us++ws)
 |_,_,_,_,.nil,s=>s
 |_,_,_,_,.cons r t,s=>.cons r (Vals.append t s)
theorem Vals.take:∀{xs:List V} {us:List Value} (n:Nat),Vals xs us->Vals (xs.take n) (us.take n)
 |_,_,0,_=>.nil
 |_,_,_+1,.nil=>.nil
 |_,_,n+1,.cons r t=>.cons r (Vals.take n t)
theorem Vals.drop:∀{xs:List V} {us:List Value} (n:Nat),Vals xs us->Vals (xs.drop n) (us.drop n)
 |_,_,0,r=>r
 |_,_,_+1,.nil=>.nil
 |_,_,n+1,.cons _ t=>Vals.drop n t
def RelO:Option V->Option Value->Prop
 |some v,some u=>RelV v u
 |none,none=>True
 |_,_=>False
def KV{κ:Type}:List (κ×V)->List (κ×Value)->Prop:=Paired fun (p:κ×V) (q:κ×Value)=>p.1=q.1/\RelV p.2 q.2
def kV:Key->V
 |.inl i=>.int i
 |.inr x=>.str x
inductive HO where
 |lst (xs:List V)
 |tup (xs:List V)
 |dK (kvs:List (Key×V)) | dT (kvs:List (List Key×V))
 |set (S:Int->Bool) (n:Nat)
 |ins (C dx:Addr) (fs:List (Str×V))
 |own (x:Addr)
 |xd (fs:List (Str×V))
 |met (f x:Addr)
 |rng (lo hi:Int)
 |frz (o:Obj) (u:HO)
 |tbl (ps:Array Value)
 |ext (φ:Heap->Prop)
abbrev Hp:=Addr->Option HO
def upd(H:Hp)(a:Addr)(o:HO):Hp:=fun b=>if b=a then some o else H b
theorem aaA{H:Hp}{a:Addr}{o:HO}:upd H a o a=some o:=by unfold upd;rw[if_pos rfl]
theorem aaG{H:Hp}{a b:Addr}{o:HO}(h:b≠a):upd H a o b=H b:=by unfold upd;rw[if_neg h]
theorem aaK{H:Hp}{a b:Addr}{o:HO}(h:H a=some o)(h':H b=none):a≠b:=by
 intro e;subst e;rw[h] at h';cases h'
section
variable(P:Program)(w:World)
def ObjOk(H:Hp)(h:Heap)(a:Addr):HO->Prop
 |.lst xs=>xs.length<=sizeLine/\∃(its:List Value) (n:Nat),Vals xs its/\h.get? a=some {cls:=.type "list",data:=.seq its.toArray n}
 |.tup xs=>xs.length<=sizeLine/\∃its:List Value,Vals xs its/\IsTup h a its.toArray
 |.dK kvs=>kvs.length<=sizeLine/\(a==sysModules)=false/\∃vs,KV kvs vs/\h.DictOf (ab5 P w) a vs
 |.dT kvs=>kvs.length<=sizeLine/\(a==sysModules)=false/\∃xs:List (List Key×Addr×Value),
   Paired (fun (p:List Key×V) (q:List Key×Addr×Value)=>p.1=q.1/\H q.2.1=some (.tup (p.1.map kV))/\RelV p.2 q.2.2) kvs xs/\
   ∃o es ep,h.get? a=some o/\o.ExactDict/\o.data=.dict es ep/\es.toList=xs.map (entryOfKey (tupleKind (ab5 P w)))/\(xs.map (·.1)).Nodup
 |.set S n=>h.SetOf (intKind P w) a S n
 |.ins C dx fs=>H dx=some (.own a)/\fs.length<=1000/\dx≠a/\h.get? a=some (PySem.W.instObj C dx)/\
   ∃mA,h.Ns1 dx mA/\(∀f,RelO (fs.lookup f) (mA f))/\PySem.Within mA (fs.map (·.1))
 |.own _=>∃o,h.get? a=some o
 |.xd fs=>∃mA,h.Ns1 a mA/\∀f,RelO (fs.lookup f) (mA f)
 |.rng lo hi=>∃t u v,h.get? a=some {cls:=.type "range",data:=.fields #[.int lo t,.int hi u,.int 1 v]}
 |.frz o u=>h.get? a=some o/\ObjOk H h a u
 |.tbl ps=>h.get? a=some {cls:=.none,data:=.fields ps}
 |.met f x=>h.get? a=some (PySem.W.methodObj (.ref f) (.ref x))
 |.ext φ=>φ h/\(∃o,h.get? a=some o)/\∀h1 h2:Heap,φ h1->(∀o,h1.get? a=some o->h2.get? a=some o)->φ h2
def HOk(H:Hp)(h:Heap):Prop:=∀a o,H a=some o->ObjOk P w H h a o
end
section
variable{P:Program}{w:World}{H H':Hp}{h h':Heap}{a:Addr}{o:HO}
theorem ObjOk.lt(x:ObjOk P w H h a o):a<h.objs.size:=by
 cases o with
 |lst xs=>obtain⟨_,_,_,_,e⟩:=x;exact Heap.lt_size e
 |tup xs=>obtain⟨_,_,_,p⟩:=x;exact p.lt
 |dK kvs=>obtain⟨_,_,_,_,o,_,_,e,_⟩:=x;exact Heap.lt_size e
 |dT kvs=>obtain⟨_,_,_,_,o,_,_,e,_⟩:=x;exact Heap.lt_size e
 |set S n=>obtain⟨o,_,_,_,e,_⟩:=x;exact Heap.lt_size e
 |ins C dx fs=>obtain⟨_,_,_,e,_⟩:=x;exact Heap.lt_size e
 |own y=>obtain⟨_,e⟩:=x;exact Heap.lt_size e
 |xd fs=>obtain⟨_,⟨_,_,_,e,_⟩,_⟩:=x;exact Heap.lt_size e
 |rng lo hi=>obtain⟨_,_,_,e⟩:=x;exact Heap.lt_size e
 |frz ob u=>obtain⟨e,_⟩:=x;exact Heap.lt_size e
 |tbl ps=>exact Heap.lt_size (show h.get? a=some _ from x)
 |met f y=>exact Heap.lt_size (show h.get? a=some _ from x)
 |ext φ=>obtain⟨_,⟨_,e⟩,_⟩:=x;exact Heap.lt_size e
theorem Paired.mapP{α β:Type}{F G:α->β->Prop}:∀{l₁:List α} {l₂:List β},Paired F l₁ l₂->(∀a b,F a b->G a b)->Paired G l₁ l₂
 |_,_,.nil,_=>.nil
 |_,_,.cons r t,f=>.cons (f _ _ r) (Paired.mapP t f)
theorem Paired.imp'{α β:Type}{F G:α->β->Prop}(f:∀a b,F a b->G a b){l₁:List α}{l₂:List β}(r:Paired F l₁ l₂):Paired G l₁ l₂:=Paired.mapP r f
theorem ObjOk.stay(x:ObjOk P w H h a o)(k:∀b u,(b=a∨H b=some (.own a))->h.get? b=some u->h'.get? b=some u)
  (ho:∀b,H b=some (.own a)->H' b=some (.own a)) (ht:∀b xs,H b=some (.tup xs)->H' b=some (.tup xs)):ObjOk P w H' h' a o:=by
 induction o with
 |lst xs=>obtain⟨z,its,n,r,e⟩:=x;exact⟨z,its,n,r,k _ _ (.inl rfl) e⟩
 |tup xs=>obtain⟨z,its,r,ob,e,c⟩:=x;exact⟨z,its,r,ob,k _ _ (.inl rfl) e,c⟩
 |dK kvs=>obtain⟨z,y,vs,r,ob,es,ep,e,c⟩:=x;exact⟨z,y,vs,r,ob,es,ep,k _ _ (.inl rfl) e,c⟩
 |dT kvs=>
  obtain⟨z,y,xs,r,ob,es,ep,e,c⟩:=x
  exact⟨z,y,xs,Paired.mapP r fun p q z=>⟨z.1,ht _ _ z.2.1,z.2.2⟩,ob,es,ep,k _ _ (.inl rfl) e,c⟩
 |set S n=>obtain⟨ob,es,ep,t,e,c⟩:=x;exact⟨ob,es,ep,t,k _ _ (.inl rfl) e,c⟩
 |ins C dx fs=>
  obtain⟨d,z,ne,e,mA,⟨od,es,ep,e2,c⟩,r⟩:=x
  exact⟨ho _ d,z,ne,k _ _ (.inl rfl) e,mA,⟨od,es,ep,k _ _ (.inr d) e2,c⟩,r⟩
 |own y=>obtain⟨ob,e⟩:=x;exact⟨ob,k _ _ (.inl rfl) e⟩
 |xd fs=>obtain⟨mA,⟨od,es,ep,e,c⟩,r⟩:=x;exact⟨mA,⟨od,es,ep,k _ _ (.inl rfl) e,c⟩,r⟩
 |rng lo hi=>obtain⟨t,u,v,e⟩:=x;exact⟨t,u,v,k _ _ (.inl rfl) e⟩
 |frz ob u ih=>obtain⟨e,q⟩:=x;exact⟨k _ _ (.inl rfl) e,ih q⟩
 |tbl ps=>
  have e:h.get? a=some {cls:=.none,data:=.fields ps}:=x
  show h'.get? a=some {cls:=.none,data:=.fields ps}
  exact k a _ (.inl rfl) e
 |met f y=>
  have e:h.get? a=some (PySem.W.methodObj (.ref f) (.ref y)):=x
  show h'.get? a=some (PySem.W.methodObj (.ref f) (.ref y))
  exact k a _ (.inl rfl) e
 |ext φ=>obtain⟨p,⟨o,e⟩,st⟩:=x;exact⟨st _ _ p fun o q=>k _ _ (.inl rfl) q,⟨o,k _ _ (.inl rfl) e⟩,st⟩
theorem HOk.lt(x:HOk P w H h)(e:H a=some o):a<h.objs.size:=(x a o e).lt
theorem HOk.fresh(x:HOk P w H h)(e:h.objs.size<=a):H a=none:=by
 cases q:H a with
 |none=>rfl
 |some u=>exact absurd (Nat.lt_of_lt_of_le (x.lt q) e) (Nat.lt_irrefl _)
theorem HOk.kept(x:HOk P w H h)(k:∀b u,h.get? b=some u->h'.get? b=some u):HOk P w H h':=fun a o e=>
 (x a o e).stay (fun b u _ q=>k b u q) (fun _ q=>q) fun _ _ q=>q
theorem HOk.laid(x:HOk P w H h)(k:∀b u,h.get? b=some u->h'.get? b=some u)(hp:h.objs.size<=a)(new:ObjOk P w (upd H a o) h' a o):HOk P w (upd H a o) h':=fun b u e=>by
 have hn:=x.fresh hp
 by_cases hb:b=a
 ·subst hb;rw[aaA] at e;cases e;exact new
 ·rw[aaG hb] at e
  exact (x b u e).stay (fun c v _ q=>k c v q) (fun c q=>by rw[aaG (aaK q hn)];exact q) fun c xs q=>by rw[aaG (aaK q hn)];exact q
end
def Rd(H:Hp)(a:Addr)(u:HO):Prop:=H a=some u∨∃o,H a=some (.frz o u)
theorem Rd.ok{P:Program}{w:World}{H:Hp}{h:Heap}{a:Addr}{u:HO}(r:Rd H a u)(x:HOk P w H h):ObjOk P w H h a u:=by
 rcases r with r | ⟨o,r⟩
 ·exact x a u r
 ·obtain⟨_,q⟩:=x a _ r
  exact q
def Mut:Option HO->Prop
 |some (.lst _)=>True
 |some (.dK _)=>True
 |some (.dT _)=>True
 |some (.set _ _)=>True
 |some (.ins _ _ _)=>True
 |some (.ext _)=>True
 |_=>False
section
variable{P:Program}{w:World}{H:Hp}{h h':Heap}{x e:Addr}{o':HO}
theorem HOk.write(ok:HOk P w H h)(mu:Mut (H x))(he:e=x∨H e=some (.own x))(k:∀b u,b≠e->h.get? b=some u->h'.get? b=some u)(heo:∃u,h'.get? e=some u)
  (new:ObjOk P w (upd H x o') h' x o'):HOk P w (upd H x o') h':=fun b u q=>by
 have nown:∀c y,H c=some (.own y)->c≠x:=fun c y r z=>by subst z;rw[r] at mu;exact mu
 have ntup:∀c xs,H c=some (.tup xs)->c≠x:=fun c xs r z=>by subst z;rw[r] at mu;exact mu
 by_cases hb:b=x
 ·subst hb;rw[aaA] at q;cases q;exact new
 ·rw[aaG hb] at q
  by_cases hbe:b=e
  ·have q':H b=some (.own x):=by
    rcases he with z | z
    ·exact absurd (hbe.trans z) hb
    ·rw[hbe];exact z
   rw[q] at q';cases q'
   obtain⟨v,hv⟩:=heo
   exact⟨v,by rw[hbe];exact hv⟩
  ·refine (ok b u q).stay (fun c v hc r=>k c v ?_ r) (fun c r=>by rw[aaG (nown c b r)];exact r) fun c xs r=>by rw[aaG (ntup c xs r)];exact r
   rcases hc with rfl | hc
   ·exact hbe
   ·rintro rfl
    rcases he with z | z
    ·exact nown c b hc z
    ·rw[hc] at z;cases z;exact hb rfl
end
structure Un(fs ex:List Addr)(H H':Hp)(h h':Heap):Prop where
 keep:∀b o,h.get? b=some o->H b=none->b∉fs->b∉ex->h'.get? b=some o
 slot:∀b o,h.get? b=some o->H b=none->b∈fs->b∉ex->∃sl,h'.get? b=some {o with slots:=sl}
 free:∀b o,h.get? b=some o->H b=none->b∉ex->H' b=none
 there:∀b o,h.get? b=some o->b∉ex->∃o',h'.get? b=some o'
 tups:∀b xs,H b=some (.tup xs)->H' b=some (.tup xs)
 frzs:∀b o u,H b=some (.frz o u)->H' b=some (.frz o u)
 tbls:∀b ps,H b=some (.tbl ps)->∃more,H' b=some (.tbl (ps++more))
section
variable{fs fs' ex ex':List Addr}{H H1 H2:Hp}{h h1 h2 h':Heap}{a x e:Addr}{o:HO}
theorem Un.any(u:Un fs ex H H1 h h1){b:Addr}{ob:Obj}(q:h.get? b=some ob)(n:H b=none)(hx:b∉ex):∃sl,h1.get? b=some {ob with slots:=sl}:=by
 by_cases hb:b∈fs
 ·exact u.slot b ob q n hb hx
 ·exact⟨ob.slots,u.keep b ob q n hb hx⟩
theorem Un.trans(a:Un fs ex H H1 h h1)(b:Un fs ex H1 H2 h1 h2):Un fs ex H H2 h h2 where
 keep:=fun c ob q n hc hx=>b.keep c ob (a.keep c ob q n hc hx) (a.free c ob q n hx) hc hx
 slot:=fun c ob q n hc hx=>by
  obtain⟨sl,e1⟩:=a.slot c ob q n hc hx
  obtain⟨sl',e2⟩:=b.slot c _ e1 (a.free c ob q n hx) hc hx
  exact⟨sl',e2⟩
 free:=fun c ob q n hx=>by
  obtain⟨o',e1⟩:=a.there c ob q hx
  exact b.free c o' e1 (a.free c ob q n hx) hx
 there:=fun c ob q hx=>by
  obtain⟨o',e1⟩:=a.there c ob q hx
  exact b.there c o' e1 hx
 tups:=fun c xs q=>b.tups c xs (a.tups c xs q)
 frzs:=fun c ob xs q=>b.frzs c ob xs (a.frzs c ob xs q)
 tbls:=fun c ps q=>by
  obtain⟨m1,e1⟩:=a.tbls c ps q
  obtain⟨m2,e2⟩:=b.tbls c _ e1
  exact⟨m1++m2,by rw[e2,Array.append_assoc]⟩
theorem Un.kept(k:∀b u,h.get? b=some u->h'.get? b=some u):Un fs ex H H h h':=
 ⟨fun b ob q _ _ _=>k b ob q,fun b ob q _ _ _=>⟨ob.slots,k b ob q⟩,fun _ _ _ n _=>n,fun b ob q _=>⟨ob,k b ob q⟩,fun _ _ q=>q,fun _ _ _ q=>q,fun _ ps q=>⟨#[],by rw[q];simp⟩⟩
theorem Un.refl:Un fs ex H H h h:=Un.kept fun _ _ q=>q
theorem Un.laid(k:∀b u,h.get? b=some u->h'.get? b=some u)(hp:h.objs.size<=a)(hn:H a=none):Un fs ex H (upd H a o) h h' where
 keep:=fun b u q _ _ _=>k b u q
 slot:=fun b u q _ _ _=>⟨u.slots,k b u q⟩
 free:=fun b u q n _=>by rw[aaG (Nat.ne_of_lt (Nat.lt_of_lt_of_le (Heap.lt_size q) hp))];exact n
 there:=fun b u q _=>⟨u,k b u q⟩
 tups:=fun b xs q=>by rw[aaG (aaK q hn)];exact q
 frzs:=fun b u xs q=>by rw[aaG (aaK q hn)];exact q
 tbls:=fun b ps q=>⟨#[],by rw[aaG (aaK q hn),q];simp⟩
theorem Un.write(mu:Mut (H x))(he:e=x∨H e=some (.own x))(k:∀b u,b≠e->h.get? b=some u->h'.get? b=some u)(heo:∃u,h'.get? e=some u):Un fs ex H (upd H x o) h h':=by
 have hx:∀b,H b=none->b≠x:=fun b n z=>by subst z;rw[n] at mu;exact mu
 have hb:∀b,H b=none->b≠e:=fun b n z=>by
  subst z
  rcases he with r | r
  ·exact hx b n r
  ·rw[n] at r;cases r
 have hm:∀b u,H b=some u->¬Mut (some u)->b≠x:=fun b u q nm z=>by subst z;rw[q] at mu;exact nm mu
 refine⟨fun b u q n _ _=>k b u (hb b n) q,fun b u q n _ _=>⟨u.slots,k b u (hb b n) q⟩,fun b u q n _=>by rw[aaG (hx b n)];exact n,fun b u q _=>?_,
  fun b xs q=>by rw[aaG (hm b _ q fun z=>z)];exact q,fun b u xs q=>by rw[aaG (hm b _ q fun z=>z)];exact q,fun b ps q=>⟨#[],by rw[aaG (hm b _ q fun z=>z),q];simp⟩⟩
 by_cases hbe:b=e
 ·subst hbe;exact heo
 ·exact⟨u,k b u hbe q⟩
end
def trk(h:Heap)(H:Hp):List Addr:=(List.range h.objs.size).filter fun a=>(H a).isSome
def al4(h:Heap)(H:Hp):Heap:=PySem.W.hideAll h (trk h H)
theorem atQ(h:Heap)(H:Hp):(al4 h H).objs.size=h.objs.size:=PySem.W.hideAll_size _ _
theorem auY{h:Heap}{H:Hp}{b:Addr}{o:Obj}(e:h.get? b=some o)(n:H b=none):(al4 h H).get? b=some o:=
 PySem.W.hideAll_get _ e fun hm=>by
  have q:(H b).isSome=true:=(List.mem_filter.mp hm).2
  rw[n] at q;simp at q
theorem aC1{h:Heap}{H:Hp}{b:Addr}{o:Obj}(e:(al4 h H).get? b=some o):h.get? b=some o/\H b=none:=by
 have e':h.get? b=some o:=PySem.W.of_hideAll (trk h H) e
 refine⟨e',?_⟩
 cases q:H b with
 |none=>rfl
 |some x=>
  have hm:b∈trk h H:=List.mem_filter.mpr ⟨List.mem_range.mpr (Heap.lt_size e'),by simp[q]⟩
  have z:(al4 h H).get? b=none:=PySem.W.hideAll_none (trk h H) hm
  rw[z] at e;cases e
def aCE(g h:Heap)(L:Addr):List (Addr×Obj):=(List.range h.objs.size).filterMap fun a=>if a=L∨(g.get? a).isSome=true then none else (h.get? a).map fun o=>(a,o)
def rest(g h:Heap)(L d:Addr):List (Addr×Obj):=(aCE g h L).filter fun p=>decide (p.1≠d)
structure Mod(K:PySem.W.Frag)(mg:Str->Option Value)(base:Heap):Prop where
 kin:K.In base
 glob:base.Ns mainGlobals mg
 blt:∃mb,base.Ns builtinsNs mb/\∀x:Str,x≠"__name__"->mb x=bootBuiltins x
 nolimit:base.NoLimit
structure Cx where
 prog:Program
 w:World
 K:PySem.W.Frag
 mg:Str->Option Value
 base:Heap
 A:Around
 N:List Str
 s₀:Shared
 H₀:Hp
 env:Env
 outer:List Env
 stack:List Env
 ex:List Addr
 fn:Str->Bool
 calm:Bool
 pn:List (Addr×Obj)
 xe:Value->Shared->Prop
def frs(l:List Env):List Addr:=l.filterMap (·.frame)
abbrev Cx.fs(X:Cx):List Addr:=frs X.outer
def Vis(sc:Scope)(x:Str):Prop:=sc.names.lookup x=some .local∨sc.names.lookup x=some .cell∨sc.names.lookup x=some .free
def Loc(sc:Scope)(x:Str):Prop:=sc.names.lookup x=some .local∨sc.names.lookup x=some .cell
def Look(env:Env)(h:Heap)(m:Str->Option Value)(x:Str)(u:Value):Prop:=
 (env.kindOf x=some .local/\m x=some u)∨((env.kindOf x=some .cell∨env.kindOf x=some .free)/\∃c,env.cells.lookup x=some c/\h.IsCell c (some u))
structure Cx.Ok(X:Cx):Prop where
 mod:Mod X.K X.mg X.base
 kind:X.env.scope.kind=.function
 glob:X.env.globals=mainGlobals
 blt:X.env.builtins=builtinsNs
 above:X.s₀.heap.objs.size<=X.env.locals
 inj:∀x y c,X.env.cells.lookup x=some c->X.env.cells.lookup y=some c->x=y
 has:∀x,(X.env.kindOf x=some .cell∨X.env.kindOf x=some .free)->∃c,X.env.cells.lookup x=some c
 cab:∀x c,X.fn x=true->X.env.cells.lookup x=some c->X.s₀.heap.objs.size<=c
 hd:X.calm=true->X.A.handled=none
 frames:X.A.frames=some X.stack
 stk:X.stack=X.outer∨(X.stack=X.env::X.outer/\X.env.frame=some X.env.locals)
 exf:∀b∈X.ex,b≠X.env.locals/\∀x c,X.env.cells.lookup x=some c->c≠b
 bs:∀b o,X.base.get? b=some o->X.s₀.heap.get? b=some o/\X.H₀ b=none
 bsz:X.base.objs.size<=X.s₀.heap.objs.size
 noex:∀b o,X.base.get? b=some o->b∉X.ex
 exfs:∀b∈X.ex,b∉X.fs
 funs:X.s₀.heap.FunFrames X.base X.outer
 frf:∀b∈X.fs,X.H₀ b=none
structure Inv(X:Cx)(pins:List (Addr×Obj))(σ:List (Option V))(H:Hp)(s:Shared):Prop where
 ok:X.Ok
 os:s.os=X.s₀.os
 bare:AllBare s.gens
 base:Un X.fs X.ex X.H₀ H X.s₀.heap s.heap
 loc:∃m,s.heap.Ns X.env.locals m/\∀(i:Nat) (x:Str) (v:V),X.N[i]? =some x->σ[i]? =some (some v)->Vis X.env.scope x->∃u,RelV v u/\Look X.env s.heap m x u
 cell:∀x c,X.env.cells.lookup x=some c->∃v,s.heap.IsCell c v
 free:H X.env.locals=none
 freeC:∀x c,X.env.cells.lookup x=some c->H c=none
 pin:∀p∈X.pn++pins,s.heap.get? p.1=some p.2/\H p.1=none/\p.1≠X.env.locals/\p.1∉X.fs/\∀v,p.2.data≠ .cell v
 hok:HOk X.prog X.w H s.heap
 len:σ.length=X.N.length
section
variable{X:Cx}{pins:List (Addr×Obj)}{σ:List (Option V)}{H H':Hp}{s:Shared}{h':Heap}
theorem Cx.Ok.nofr(ok:X.Ok){b:Addr}{o:Obj}(e:X.base.get? b=some o):b∉X.fs:=fun hb=>by
 have:=(ok.funs.mem hb).1
 rw[e] at this;cases this
theorem Inv.bs(I:Inv X pins σ H s):∀b o,X.base.get? b=some o->s.heap.get? b=some o/\H b=none:=fun b o e=>
 ⟨I.base.keep b o (I.ok.bs b o e).1 (I.ok.bs b o e).2 (I.ok.nofr e) (I.ok.noex b o e),I.base.free b o (I.ok.bs b o e).1 (I.ok.bs b o e).2 (I.ok.noex b o e)⟩
theorem Inv.bk(I:Inv X pins σ H s):∀b o,X.base.get? b=some o->s.heap.get? b=some o:=fun b o e=>(I.bs b o e).1
theorem Inv.mod(I:Inv X pins σ H s):Mod X.K X.mg X.base:=I.ok.mod
theorem Inv.kIn(I:Inv X pins σ H s):X.K.In s.heap:=I.ok.mod.kin.keeps I.bk
theorem Inv.nolimit(I:Inv X pins σ H s):s.heap.NoLimit:=I.ok.mod.nolimit.keeps I.bk
theorem Inv.lt(I:Inv X pins σ H s):X.env.locals<s.heap.objs.size:=let ⟨_,hn,_⟩:=I.loc;hn.lt
theorem Inv.sz(I:Inv X pins σ H s):X.s₀.heap.objs.size<=s.heap.objs.size:=Nat.le_trans I.ok.above (Nat.le_of_lt I.lt)
theorem Inv.nofs(I:Inv X pins σ H s){a:Addr}(h:s.heap.objs.size<=a):a∉X.fs:=fun hb=>by
 obtain⟨_,o,ho,_⟩:=I.ok.funs.mem hb
 exact absurd (Nat.lt_of_lt_of_le (Heap.lt_size ho) (Nat.le_trans I.sz h)) (Nat.lt_irrefl _)
theorem Inv.cne(I:Inv X pins σ H s):∀x c,X.env.cells.lookup x=some c->c≠X.env.locals:=fun x c e z=>by
 obtain⟨v,o,ho,hd⟩:=I.cell x c e
 obtain⟨m,⟨o',es,ep,ho',hd',_⟩,_⟩:=I.loc
 rw[z,ho'] at ho;cases ho;rw[hd'] at hd;cases hd
theorem Inv.funs(I:Inv X pins σ H s):s.heap.FunFrames X.base X.outer:=by
 have all:∀(l:List Env),(∀b∈frs l,b∈X.fs)->X.s₀.heap.FunFrames X.base l->s.heap.FunFrames X.base l:=by
  intro l
  induction l with
  |nil=>intro _ _;trivial
  |cons env r ih=>
   intro hs hl
   obtain⟨hk,⟨L,o,hf,hn,ho,hd⟩,hr⟩:=hl
   have hL:L∈X.fs:=hs L (by unfold frs;rw[List.filterMap_cons,hf];exact List.mem_cons_self)
   obtain⟨sl,e⟩:=I.base.slot L o ho (I.ok.frf L hL) hL fun z=>I.ok.exfs L z hL
   exact⟨hk,⟨L,_,hf,hn,e,hd⟩,ih (fun b hb=>hs b (by unfold frs;rw[List.filterMap_cons,hf];exact List.mem_cons_of_mem _ hb)) hr⟩
 exact all X.outer (fun _ hb=>hb) I.ok.funs
theorem Inv.stack(I:Inv X pins σ H s):s.heap.FunFrames X.base X.stack:=by
 rcases I.ok.stk with e | ⟨e,hf⟩
 ·rw[e];exact I.funs
 ·rw[e]
  obtain⟨m,hn,_⟩:=I.loc
  refine .cons (by rw[I.ok.kind];decide) hf hn ?_ I.funs
  exact Heap.get?_none_of_le (Nat.le_trans I.ok.bsz I.ok.above)
theorem Inv.stkSub(I:Inv X pins σ H s):∀b∈frs X.stack,b∈X.env.locals::X.fs:=fun b hb=>by
 rcases I.ok.stk with e | ⟨e,hf⟩
 ·rw[e] at hb;exact List.mem_cons_of_mem _ hb
 ·rw[e] at hb
  unfold frs at hb
  rw[List.filterMap_cons,hf] at hb
  exact hb
theorem Inv.stkFree(I:Inv X pins σ H s):∀b∈frs X.stack,H b=none:=fun b hb=>by
 rcases List.mem_cons.mp (I.stkSub b hb) with e | hb
 ·rw[e];exact I.free
 ·obtain⟨_,o,ho,_⟩:=I.ok.funs.mem hb
  exact I.base.free b o ho (I.ok.frf b hb) fun z=>I.ok.exfs b z hb
theorem Inv.step{g':Array GenState}{t':Nat}{d':Drawn}{ch:List Addr}(I:Inv X pins σ H s)
  (hch:∀b∈ch,(b∈X.ex∨X.s₀.heap.objs.size<=b)/\b≠X.env.locals/\(∀x c,X.env.cells.lookup x=some c->c≠b)/\∀p∈X.pn++pins,p.1≠b)
  (keep:∀b o,b≠X.env.locals->b∉X.fs->b∉ch->s.heap.get? b=some o->H b=none->h'.get? b=some o)
  (slot:∀b o,b≠X.env.locals->b∈X.fs->b∉ch->s.heap.get? b=some o->H b=none->∃sl,h'.get? b=some {o with slots:=sl}) (free:∀b o,b∉ch->s.heap.get? b=some o->H b=none->H' b=none)
  (there:∀b o,b∉ch->s.heap.get? b=some o->∃o',h'.get? b=some o')
  (tups:∀b xs,H b=some (.tup xs)->H' b=some (.tup xs)) (frzs:∀b o u,H b=some (.frz o u)->H' b=some (.frz o u)) (tbls:∀b ps,H b=some (.tbl ps)->∃more,H' b=some (.tbl (ps++more)))
  (ns:∀m,s.heap.Ns X.env.locals m->h'.Ns X.env.locals m) (hok:HOk X.prog X.w H' h') (hg:AllBare g'):
  Inv X pins σ H' {s with heap:=h',gens:=g',drawn:=d',toks:=t'}:=by
 have neL:∀b o,X.s₀.heap.get? b=some o->b≠X.env.locals:=fun b o e=>Nat.ne_of_lt (Nat.lt_of_lt_of_le (Heap.lt_size e) I.ok.above)
 have neC:∀b o,X.s₀.heap.get? b=some o->b∉X.ex->b∉ch:=fun b o e hx hb=>by
  rcases (hch b hb).1 with z | z
  ·exact hx z
  ·exact absurd (Nat.lt_of_lt_of_le (Heap.lt_size e) z) (Nat.lt_irrefl _)
 have cellK:∀x c,X.env.cells.lookup x=some c->∀v,s.heap.IsCell c v->h'.IsCell c v:=fun x c e v ⟨o,ho,hd⟩=>by
  have nch:c∉ch:=fun z=>(hch c z).2.2.1 x c e rfl
  by_cases hc:c∈X.fs
  ·obtain⟨sl,q⟩:=slot c o (I.cne x c e) hc nch ho (I.freeC x c e)
   exact⟨_,q,hd⟩
  ·exact⟨o,keep c o (I.cne x c e) hc nch ho (I.freeC x c e),hd⟩
 refine⟨I.ok,I.os,hg,⟨fun b o e n hb hx=>?_,fun b o e n hb hx=>?_,fun b o e n hx=>?_,fun b o e hx=>?_,fun b xs e=>tups b xs (I.base.tups b xs e),fun b o xs e=>frzs b o xs (I.base.frzs b o xs e),fun b ps e=>?_⟩,?_,fun x c e=>?_,?_,fun x c e=>?_,fun p hp=>?_,hok,I.len⟩
 ·exact keep b o (neL b o e) hb (neC b o e hx) (I.base.keep b o e n hb hx) (I.base.free b o e n hx)
 ·obtain⟨sl,e1⟩:=I.base.slot b o e n hb hx
  obtain⟨sl',e2⟩:=slot b _ (neL b o e) hb (neC b o e hx) e1 (I.base.free b o e n hx)
  exact⟨sl',e2⟩
 ·obtain⟨o',e1⟩:=I.base.there b o e hx
  exact free b o' (neC b o e hx) e1 (I.base.free b o e n hx)
 ·obtain⟨o',e1⟩:=I.base.there b o e hx
  exact there b o' (neC b o e hx) e1
 ·obtain⟨m1,e1⟩:=I.base.tbls b ps e
  obtain⟨m2,e2⟩:=tbls b _ e1
  exact⟨m1++m2,by rw[e2,Array.append_assoc]⟩
 ·obtain⟨m,hn,hl⟩:=I.loc
  refine⟨m,ns m hn,fun i x v e1 e2 e3=>?_⟩
  obtain⟨u,r,l⟩:=hl i x v e1 e2 e3
  refine⟨u,r,?_⟩
  rcases l with l | ⟨k,c,e,z⟩
  ·exact .inl l
  ·exact .inr ⟨k,c,e,cellK x c e _ z⟩
 ·obtain⟨v,z⟩:=I.cell x c e
  exact⟨v,cellK x c e v z⟩
 ·obtain⟨m,⟨o,_,_,ho,_⟩,_⟩:=I.loc
  exact free _ o (fun z=>(hch _ z).2.1 rfl) ho I.free
 ·obtain⟨v,o,ho,hd⟩:=I.cell x c e
  exact free c o (fun z=>(hch c z).2.2.1 x c e rfl) ho (I.freeC x c e)
 ·obtain⟨e,n,ne,nf,d⟩:=I.pin p hp
  have nch:p.1∉ch:=fun z=>(hch p.1 z).2.2.2 p hp rfl
  exact⟨keep p.1 p.2 ne nf nch e n,free p.1 p.2 nch e n,ne,nf,d⟩
theorem Inv.un{t':Nat}(I:Inv X pins σ H s)(u:Un X.fs [] H H' s.heap h')(hok:HOk X.prog X.w H' h'):Inv X pins σ H' {s with heap:=h',toks:=t'}:=by
 obtain⟨m,⟨o,es,ep,ho,r⟩,_⟩:=id I.loc
 obtain⟨sl,hL⟩:=u.any ho I.free (by simp)
 exact I.step (g':=s.gens) (d':=s.drawn) (ch:=[]) (fun _ z=>nomatch z) (fun b o _ hb _ e n=>u.keep b o e n hb (by simp)) (fun b o _ hb _ e n=>u.slot b o e n hb (by simp)) (fun b o _ e n=>u.free b o e n (by simp)) (fun b o _ e=>u.there b o e (by simp)) u.tups u.frzs u.tbls (fun m' hm=>by
  obtain⟨o',es',ep',ho',r'⟩:=hm
  rw[ho] at ho';cases ho'
  exact⟨_,es',ep',hL,r'⟩) hok I.bare
theorem Inv.call{g':Array GenState}{t':Nat}{d':Drawn}{ch:List Addr}(I:Inv X pins σ H s)(u:Un (frs X.stack) ch H H' s.heap h')(hok:HOk X.prog X.w H' h')(hg:AllBare g')
  (hch:∀b∈ch,(b∈X.ex∨X.s₀.heap.objs.size<=b)/\b≠X.env.locals/\(∀x c,X.env.cells.lookup x=some c->c≠b)/\∀p∈X.pn++pins,p.1≠b):
  Inv X pins σ H' {s with heap:=h',gens:=g',drawn:=d',toks:=t'}:=by
 obtain⟨m,⟨o,es,ep,ho,r⟩,_⟩:=id I.loc
 obtain⟨sl,hL⟩:=u.any ho I.free fun z=>(hch _ z).2.1 rfl
 exact I.step (ch:=ch) hch (fun b o hL hb hc e n=>u.keep b o e n (fun z=>(List.mem_cons.mp (I.stkSub b z)).elim hL hb) hc) (fun b o _ _ hc e n=>u.any e n hc) (fun b o hc e n=>u.free b o e n hc) (fun b o hc e=>u.there b o e hc) u.tups u.frzs u.tbls (fun m' hm=>by
  obtain⟨o',es',ep',ho',r'⟩:=hm
  rw[ho] at ho';cases ho'
  exact⟨_,es',ep',hL,r'⟩) hok hg
theorem Inv.turned{t':Nat}{it:Addr}(I:Inv X pins σ H s)(k:∀b o,b≠it->s.heap.get? b=some o->h'.get? b=some o)(hn:H it=none)(hL:it≠X.env.locals)
  (h1:it∈X.ex∨X.s₀.heap.objs.size<=it) (h2:∀x c,X.env.cells.lookup x=some c->c≠it) (h3:∀p∈X.pn++pins,p.1≠it):Inv X pins σ H {s with heap:=h',toks:=t'}:=by
 have nit:∀b u,H b=some u->b≠it:=fun b u e z=>by rw[z,hn] at e;cases e
 refine I.step (g':=s.gens) (d':=s.drawn) (ch:=[it]) (fun b hb=>?_) (fun b o _ _ hc e _=>k b o (fun z=>hc (by simp[z])) e) (fun b o _ _ hc e _=>⟨o.slots,k b o (fun z=>hc (by simp[z])) e⟩) (fun _ _ _ _ n=>n)
  (fun b o hc e=>⟨o,k b o (fun z=>hc (by simp[z])) e⟩) (fun _ _ e=>e) (fun _ _ _ e=>e) (fun b ps e=>⟨#[],by rw[e];simp⟩) (fun m hm=>?_) (fun b u e=>?_) I.bare
 ·have e:b=it:=by simpa using hb
  subst e
  exact⟨h1,hL,h2,h3⟩
 ·obtain⟨o,es,ep,ho,r⟩:=hm
  exact⟨o,es,ep,k _ o (Ne.symm hL) ho,r⟩
 ·refine (I.hok b u e).stay (fun c v hc q=>k c v ?_ q) (fun _ q=>q) fun _ _ q=>q
  rcases hc with z | z
  ·rw[z];exact nit b u e
  ·exact nit c _ z
theorem Inv.tok(I:Inv X pins σ H s)(t:Nat):Inv X pins σ H {s with toks:=t}:=I.un (h':=s.heap) (t':=t) Un.refl I.hok
theorem Inv.kept{t':Nat}(I:Inv X pins σ H s)(k:∀b u,s.heap.get? b=some u->h'.get? b=some u):Inv X pins σ H {s with heap:=h',toks:=t'}:=I.un (Un.kept k) (I.hok.kept k)
theorem Inv.laid{a:Addr}{o:HO}{t':Nat}(I:Inv X pins σ H s)(k:∀b u,s.heap.get? b=some u->h'.get? b=some u)(hp:s.heap.objs.size<=a)(new:ObjOk X.prog X.w (upd H a o) h' a o):
  Inv X pins σ (upd H a o) {s with heap:=h',toks:=t'}:=I.un (Un.laid k hp (I.hok.fresh hp)) (I.hok.laid k hp new)
theorem Inv.write{x e:Addr}{o:HO}{t':Nat}(I:Inv X pins σ H s)(mu:Mut (H x))(he:e=x∨H e=some (.own x))(k:∀b u,b≠e->s.heap.get? b=some u->h'.get? b=some u)(heo:∃u,h'.get? e=some u)
  (new:ObjOk X.prog X.w (upd H x o) h' x o):Inv X pins σ (upd H x o) {s with heap:=h',toks:=t'}:=I.un (Un.write mu he k heo) (I.hok.write mu he k heo new)
theorem Inv.pins_of{pins':List (Addr×Obj)}(I:Inv X pins σ H s)(h:∀p∈pins',s.heap.get? p.1=some p.2/\H p.1=none/\p.1≠X.env.locals/\p.1∉X.fs/\∀v,p.2.data≠ .cell v):Inv X pins' σ H s:=
 ⟨I.ok,I.os,I.bare,I.base,I.loc,I.cell,I.free,I.freeC,fun p hp=>(List.mem_append.mp hp).elim (fun z=>I.pin p (List.mem_append_left _ z)) (h p),I.hok,I.len⟩
theorem apJ{N:List Str}(hN:N.Nodup){i j:Nat}{x:Str}(a:N[i]? =some x)(b:N[j]? =some x):i=j:=by
 obtain⟨h1,e1⟩:=List.getElem?_eq_some_iff.mp a
 obtain⟨h2,e2⟩:=List.getElem?_eq_some_iff.mp b
 exact (List.getElem_inj hN).mp (e1.trans e2.symm)
theorem alS{M:Model}{A:Around}{E:Value->Shared->Prop}{i:Nat}{x:Str}{v:V}{u:Value}{Q:Unit->Shared->Prop}(I:Inv X pins σ H s)(hN:X.N.Nodup)(hi:X.N[i]? =some x)(hx:Loc X.env.scope x)(r:RelV v u)
  (h:∀s',Inv X pins (σ.set i (some v)) H s'->(∃a,Heap.SameBut a s.heap s'.heap/\(a=X.env.locals∨X.env.cells.lookup x=some a))->Q () s') (hf:X.fn x=true∨X.env.scope.names.lookup x=some .local:=by first | exact .inl rfl | exact .inr rfl | assumption):wpAny M A (storeName X.env x u) Q E s:=by
 obtain⟨m,hn,hl⟩:=id I.loc
 have hcls:(X.env.scope.kind== .class||(X.env.scope.kind== .module&&X.env.locals !=X.env.globals))=false:=by rw[I.ok.kind];rfl
 have hiσ:i<σ.length:=by rw[I.len];exact (List.getElem?_eq_some_iff.mp hi).1
 have cne:=I.cne
 have tracked:∀{a:Addr} {h':Heap},(∃o,s.heap.get? a=some o/\H a=none)->Heap.SameBut a s.heap h'->HOk X.prog X.w H h':=fun {a h'} ha hs b ob e=>by
  obtain⟨_,_,hfree⟩:=ha
  refine (I.hok b ob e).stay (fun c w' hc q=>(hs.2 c ?_).trans q) (fun _ q=>q) fun _ _ q=>q
  rintro rfl
  rcases hc with rfl | hc
  ·rw[hfree] at e;cases e
  ·rw[hfree] at hc;cases hc
 rcases hx with hk | hk
 ·refine wpAny_storeName_local hk hn (fun h' hn' hs=>?_) hcls
  obtain⟨oL,_,_,hoL,_⟩:=id hn
  refine h _ ⟨I.ok,I.os,I.bare,⟨fun b o e n hb hx=>?_,fun b o e n hb hx=>?_,I.base.free,fun b o e hx=>?_,I.base.tups,I.base.frzs,I.base.tbls⟩,⟨_,hn',fun j y v' e1 e2 e3=>?_⟩,fun y c e=>?_,I.free,I.freeC,fun p hp=>?_,tracked ⟨oL,hoL,I.free⟩ hs,by simpa using I.len⟩ ⟨_,hs,.inl rfl⟩
  ·exact (hs.2 b (Nat.ne_of_lt (Nat.lt_of_lt_of_le (Heap.lt_size e) I.ok.above))).trans (I.base.keep b o e n hb hx)
  ·obtain⟨sl,e1⟩:=I.base.slot b o e n hb hx
   exact⟨sl,(hs.2 b (Nat.ne_of_lt (Nat.lt_of_lt_of_le (Heap.lt_size e) I.ok.above))).trans e1⟩
  ·obtain⟨o',e1⟩:=I.base.there b o e hx
   exact⟨o',(hs.2 b (Nat.ne_of_lt (Nat.lt_of_lt_of_le (Heap.lt_size e) I.ok.above))).trans e1⟩
  ·by_cases hj:j=i
   ·subst hj
    rw[hi] at e1;cases e1
    rw[List.getElem?_set_self hiσ] at e2
    cases e2
    exact⟨u,r,.inl ⟨hk,by simp⟩⟩
   ·rw[List.getElem?_set_ne (Ne.symm hj)] at e2
    obtain⟨u',r',q⟩:=hl j y v' e1 e2 e3
    refine⟨u',r',?_⟩
    rcases q with ⟨k,e⟩ | ⟨k,c,e,z⟩
    ·refine .inl ⟨k,?_⟩
     have:y≠x:=fun e=>hj (apJ hN e1 (e▸hi))
     simp[this,e]
    ·exact .inr ⟨k,c,e,z.sameBut hs (cne y c e)⟩
  ·obtain⟨w',z⟩:=I.cell y c e
   exact⟨w',z.sameBut hs (cne y c e)⟩
  ·obtain⟨e,n,ne,nf,d⟩:=I.pin p hp
   exact⟨(hs.2 p.1 ne).trans e,n,ne,nf,d⟩
 ·have hfn:X.fn x=true:=by
   rcases hf with z | z
   ·exact z
   ·rw[z] at hk;cases hk
  obtain⟨c,hc⟩:=I.ok.has x (.inl hk)
  obtain⟨w',z⟩:=I.cell x c hc
  refine wpAny_storeName_cell I.ok.kind hk hc z (fun h' hc' hs=>?_)
  obtain⟨oc,hoc,hocd⟩:=id z
  refine h {s with heap:=h'} ⟨I.ok,I.os,I.bare,⟨fun b o e n hb hx=>?_,fun b o e n hb hx=>?_,I.base.free,fun b o e hx=>?_,I.base.tups,I.base.frzs,I.base.tbls⟩,⟨m,hn.sameBut hs (Ne.symm (cne x c hc)),fun j y v' e1 e2 e3=>?_⟩,fun y c' e=>?_,I.free,I.freeC,fun p hp=>?_,tracked ⟨oc,hoc,I.freeC x c hc⟩ hs,by simpa using I.len⟩ ⟨c,hs,.inr hc⟩
  ·exact (hs.2 b (Nat.ne_of_lt (Nat.lt_of_lt_of_le (Heap.lt_size e) (I.ok.cab x c hfn hc)))).trans (I.base.keep b o e n hb hx)
  ·obtain⟨sl,e1⟩:=I.base.slot b o e n hb hx
   exact⟨sl,(hs.2 b (Nat.ne_of_lt (Nat.lt_of_lt_of_le (Heap.lt_size e) (I.ok.cab x c hfn hc)))).trans e1⟩
  ·obtain⟨o',e1⟩:=I.base.there b o e hx
   exact⟨o',(hs.2 b (Nat.ne_of_lt (Nat.lt_of_lt_of_le (Heap.lt_size e) (I.ok.cab x c hfn hc)))).trans e1⟩
  ·by_cases hj:j=i
   ·subst hj
    rw[hi] at e1;cases e1
    rw[List.getElem?_set_self hiσ] at e2
    cases e2
    exact⟨u,r,.inr ⟨.inl hk,c,hc,hc'⟩⟩
   ·rw[List.getElem?_set_ne (Ne.symm hj)] at e2
    obtain⟨u',r',q⟩:=hl j y v' e1 e2 e3
    refine⟨u',r',?_⟩
    rcases q with q | ⟨k,c',e,z'⟩
    ·exact .inl q
    ·refine .inr ⟨k,c',e,z'.sameBut hs ?_⟩
     rintro rfl
     exact hj (apJ hN e1 (I.ok.inj _ _ _ e hc▸hi))
  ·by_cases hcc:c'=c
   ·subst hcc;exact⟨_,hc'⟩
   ·obtain⟨w2,z2⟩:=I.cell y c' e
    exact⟨w2,z2.sameBut hs hcc⟩
  ·obtain⟨e,n,ne,nf,d⟩:=I.pin p hp
   refine⟨(hs.2 p.1 ?_).trans e,n,ne,nf,d⟩
   intro q
   rw[q,hoc] at e
   have q':oc=p.2:=Option.some.inj e
   exact d w' (by rw[←q'];exact hocd)
theorem akJ{M:Model}{A:Around}{E:Value->Shared->Prop}{i:Nat}{x:Str}{v:V}{u:Value}{Q:Unit->Shared->Prop}(I:Inv X pins σ H s)(hN:X.N.Nodup)(hi:X.N[i]? =some x)(hx:Loc X.env.scope x)(r:RelV v u)
  (h:∀s',Inv X pins (σ.set i (some v)) H s'->Q () s') (hf:X.fn x=true∨X.env.scope.names.lookup x=some .local:=by first | exact .inl rfl | exact .inr rfl | assumption):wpAny M A (storeName X.env x u) Q E s:=
 alS I hN hi hx r (fun s' I' _=>h s' I') hf
theorem Inv.call'{s':Shared}{ch:List Addr}(I:Inv X pins σ H s)(ho:s'.os=s.os)(u:Un (frs X.stack) ch H H' s.heap s'.heap)(hok:HOk X.prog X.w H' s'.heap)(hg:AllBare s'.gens)
  (hch:∀b∈ch,(b∈X.ex∨X.s₀.heap.objs.size<=b)/\b≠X.env.locals/\(∀x c,X.env.cells.lookup x=some c->c≠b)/\∀p∈X.pn++pins,p.1≠b):Inv X pins σ H' s':=by
 obtain⟨h',g',d',t',o'⟩:=s'
 have e:o'=s.os:=ho
 subst e
 exact I.call (g':=g') (t':=t') (d':=d') u hok hg hch
end
abbrev XK:=Value->Option Addr->Hp->Prop
abbrev St:=List (Option V)
abbrev VK:=V->Hp->Prop
abbrev TE:=St->Hp->VK->Prop
abbrev TT:=St->Hp->(Bool->Hp->Prop)->Prop
abbrev TA:=St->Hp->(List V->Hp->Prop)->Prop
structure Ends where
 nx:St->Hp->Prop
 rt:VK
 bk:St->Hp->Prop:=fun _ _=>False
 ct:St->Hp->Prop:=fun _ _=>False
abbrev TS:=Ends->St->Hp->Prop
def EP(X:Cx)(pins:List (Addr×Obj))(σ:St)(Q:VK)(u:Value)(s':Shared):Prop:=∃v H',Inv X pins σ H' s'/\RelV v u/\Q v H'
def TP(X:Cx)(pins:List (Addr×Obj))(σ:St)(Q:Bool->Hp->Prop)(b:Bool)(s':Shared):Prop:=∃H',Inv X pins σ H' s'/\Q b H'
def AP(X:Cx)(pins:List (Addr×Obj))(σ:St)(Q:List V->Hp->Prop)(us:List Value)(s':Shared):Prop:=∃vs H',Inv X pins σ H' s'/\Vals vs us/\Q vs H'
def SP(X:Cx)(pins:List (Addr×Obj))(D:Ends)(f:Flow)(s':Shared):Prop:=
 match f with
 |.next=>∃σ' H',Inv X pins σ' H' s'/\D.nx σ' H'
 |.brk=>∃σ' H',Inv X pins σ' H' s'/\D.bk σ' H'
 |.cont=>∃σ' H',Inv X pins σ' H' s'/\D.ct σ' H'
 |.ret u=>∃v σ' H',Inv X pins σ' H' s'/\RelV v u/\D.rt v H'
def PE(X:Cx)(e:Expr)(t:TE):Prop:=
 ∀(pins:List (Addr×Obj)) (s:Shared) (σ:St) (H:Hp) (Q:VK),Inv X pins σ H s->t σ H Q->wpAny (model X.prog X.w) X.A (eval e X.env) (EP X pins σ Q) X.xe s
def PT(X:Cx)(e:Expr)(t:TT):Prop:=
 ∀(pins:List (Addr×Obj)) (s:Shared) (σ:St) (H:Hp) (Q:Bool->Hp->Prop),Inv X pins σ H s->t σ H Q->wpAny (model X.prog X.w) X.A (isTrue e X.env (eval e X.env)) (TP X pins σ Q) X.xe s
def PW(X:Cx)(e:Expr)(t:TT):Prop:=
 ∀(whole:Sem Value) (pins:List (Addr×Obj)) (s:Shared) (σ:St) (H:Hp) (Q:Bool->Hp->Prop),Inv X pins σ H s->t σ H Q->wpAny (model X.prog X.w) X.A (isTrue e X.env whole) (TP X pins σ Q) X.xe s
theorem PW.pt{X:Cx}{e:Expr}{t:TT}(h:PW X e t):PT X e t:=h _
def PA(X:Cx)(es:List Expr)(t:TA):Prop:=
 ∀(pos:Pos) (pins:List (Addr×Obj)) (s:Shared) (σ:St) (H:Hp) (Q:List V->Hp->Prop),Inv X pins σ H s->t σ H Q->wpAny (model X.prog X.w) X.A (spliced (backTo pos (starEach es X.env))) (AP X pins σ Q) X.xe s
def PS(X:Cx)(st:Stmt)(t:TS):Prop:=
 ∀(pins:List (Addr×Obj)) (s:Shared) (σ:St) (H:Hp) (D:Ends),Inv X pins σ H s->t D σ H->wpAny (model X.prog X.w) X.A (exec st X.env) (SP X pins D) X.xe s
def PSs(X:Cx)(st:List Stmt)(t:TS):Prop:=
 ∀(pins:List (Addr×Obj)) (s:Shared) (σ:St) (H:Hp) (D:Ends),Inv X pins σ H s->t D σ H->wpAny (model X.prog X.w) X.A (execs st X.env) (SP X pins D) X.xe s
theorem thn{α:Type}{t:Sem α}{Q Q':α->Shared->Prop}{M:Model}{A:Around}{E:Value->Shared->Prop}{s:Shared}(h:wpAny M A t Q E s)(hQ:∀a s,Q a s->Q' a s):wpAny M A t Q' E s:=wpAny_mono h hQ fun _ _ x=>x
section
variable{X:Cx}
def aN2(i:Nat):TE:=fun σ H Q=>∃v,σ[i]? =some (some v)/\Q v H
def tC(v:V):TE:=fun _ H Q=>Q v H
theorem aG8{i:Nat}{x:Str}{pos:Pos}(hN:X.N[i]? =some x)(hv:Vis X.env.scope x)(hd:(x==("__debug__":Str))=false:=by decide)(hcd:(x==("__classdict__":Str))=false:=by decide):PE X (.Name x pos) (aN2 i):=by
 intro pins s σ H Q I h
 obtain⟨v,e,h⟩:=h
 obtain⟨m,hn,hl⟩:=I.loc
 obtain⟨u,r,l⟩:=hl i x v hN e hv
 have fin:EP X pins σ Q u s:=⟨v,H,I,r,h⟩
 rcases l with ⟨hk,hm⟩ | ⟨hk,c,hc,hcell⟩
 ·exact wpAny_Name (wpAny_loadName_local I.ok.kind hk hn hm fin) hd
 ·rcases hk with hk | hk
  ·exact wpAny_Name (wpAny_loadName_cell I.ok.kind hk hc hcell fin) hd
  ·exact wpAny_Name (wpAny_loadName_free I.ok.kind hk hc hcell fin hcd) hd
theorem avJ{i j pos}:PE X (.Constant (.int i) j pos) (tC (.int i)):=fun _ _ _ H _ I h=>wpAny_Constant_int ⟨.int i,H,I.tok _,⟨_,rfl⟩,h⟩
theorem aPC{b j pos}:PE X (.Constant (.bool b) j pos) (tC (.bl b)):=fun _ _ _ H _ I h=>Constant_bool ⟨.bl b,H,I,rfl,h⟩
theorem aKK{j pos}:PE X (.Constant .none j pos) (tC .non):=fun _ _ _ H _ I h=>Constant_none ⟨.non,H,I,rfl,h⟩
theorem axZ{x j pos}:PE X (.Constant (.str x) j pos) (tC (.str x)):=fun _ _ _ H _ I h=>Calls.Constant_str ⟨.str x,H,I.tok _,⟨_,rfl⟩,h⟩
def Gl(X:Cx)(x:Str):Prop:=X.env.kindOf x=some .globalImplicit
theorem agG{E:Value->Shared->Prop}{pins:List (Addr×Obj)}{s:Shared}{σ:St}{H:Hp}{x:Str}{u:Value}{pos:Pos}{Q:Value->Shared->Prop}(I:Inv X pins σ H s)(hg:Gl X x)(hm:X.mg x=some u)(h:Q u s)
  (hd:(x==("__debug__":Str))=false:=by decide):wpAny (model X.prog X.w) X.A (eval (.Name x pos) X.env) Q E s:=
 Calls.Name_function_global I.ok.kind hg (Calls.loadGlobal_global (by rw[I.ok.glob];exact I.mod.glob.keeps I.bk) hm h) hd
theorem agQ{E:Value->Shared->Prop}{pins:List (Addr×Obj)}{s:Shared}{σ:St}{H:Hp}{x:Str}{u:Value}{pos:Pos}{Q:Value->Shared->Prop}(I:Inv X pins σ H s)(hg:Gl X x)(hm:X.mg x=none)(hv:bootBuiltins x=some u)(h:Q u s)
  (hn:x≠"__name__":=by decide) (hd:(x==("__debug__":Str))=false:=by decide):wpAny (model X.prog X.w) X.A (eval (.Name x pos) X.env) Q E s:=by
 obtain⟨mb,h1,h2⟩:=I.mod.blt
 exact Calls.Name_function_global I.ok.kind hg (Calls.loadGlobal_builtin (by rw[I.ok.glob];exact I.mod.glob.keeps I.bk) hm (by rw[I.ok.blt];exact h1.keeps I.bk) ((h2 x hn).trans hv) h) hd
theorem azW{x:Str}{v:V}{u:Value}{pos:Pos}(hg:Gl X x)(hm:X.mg x=some u)(r:RelV v u)(hd:(x==("__debug__":Str))=false:=by decide):PE X (.Name x pos) (tC v):=
 fun _ _ _ H _ I h=>agG I hg hm ⟨v,H,I,r,h⟩ hd
theorem aDA{x:Str}{v:V}{u:Value}{pos:Pos}(hg:Gl X x)(hm:X.mg x=none)(hv:bootBuiltins x=some u)(r:RelV v u)(hn:x≠"__name__":=by decide)(hd:(x==("__debug__":Str))=false:=by decide):PE X (.Name x pos) (tC v):=
 fun _ _ _ H _ I h=>agQ I hg hm hv ⟨v,H,I,r,h⟩ hn hd
variable{a b:Expr}{ta tb:TE}{pos:Pos}
def tB(t:TE):TT:=fun σ H Q=>t σ H fun x H1=>∃c,x=.bl c/\Q c H1
theorem aJ0{e:Expr}{t:TE}(h:PE X e t)(he:∀whole,isTrue e X.env whole=(do let v ←whole;standAt e.pos;holding [v] (truthy v)):=by intro _;rfl):PT X e (tB t):=by
 intro pins s σ H Q I hw
 refine isTrue_plain (thn (h pins s σ H _ I hw) fun v s1 ⟨x,H1,I1,r1,q1⟩=>?_) (he _)
 obtain⟨d,rfl,q⟩:=q1
 cases r1
 exact wpAny_truthy_bool ⟨H1,I1,q⟩
variable{tA tB':TT}{rest:List Expr}
def aNT(t u:TT):TT:=fun σ H Q=>t σ H fun c H1=>if c=true then u σ H1 Q else Q false H1
def tOr(t u:TT):TT:=fun σ H Q=>t σ H fun c H1=>if c=true then Q true H1 else u σ H1 Q
def aMU(t:TT):TT:=fun σ H Q=>t σ H fun c H1=>Q (!c) H1
theorem aCA(ha:PT X a tA):PW X (.BoolOp .And [a] pos) tA:=by
 intro wh pins s σ H Q I h
 refine isTrue_and (thn (ha pins s σ H Q I h) fun c s1 e=>?_)
 cases c with
 |true=>exact isTrue_and_nil e
 |false=>exact e
theorem aH4(ha:PT X a tA):PW X (.BoolOp .Or [a] pos) tA:=by
 intro wh pins s σ H Q I h
 refine isTrue_or (thn (ha pins s σ H Q I h) fun c s1 e=>?_)
 cases c with
 |false=>exact isTrue_or_nil e
 |true=>exact e
theorem aKP(ha:PT X a tA)(hb:PW X (.BoolOp .And (b::rest) pos) tB'):PW X (.BoolOp .And (a::b::rest) pos) (aNT tA tB'):=by
 intro wh pins s σ H Q I h
 refine isTrue_and (thn (ha pins s σ H _ I h) fun c s1 ⟨H1,I1,q1⟩=>?_)
 cases c with
 |true=>exact hb wh pins s1 σ H1 Q I1 q1
 |false=>exact⟨H1,I1,q1⟩
theorem aMN(ha:PT X a tA)(hb:PW X (.BoolOp .Or (b::rest) pos) tB'):PW X (.BoolOp .Or (a::b::rest) pos) (tOr tA tB'):=by
 intro wh pins s σ H Q I h
 refine isTrue_or (thn (ha pins s σ H _ I h) fun c s1 ⟨H1,I1,q1⟩=>?_)
 cases c with
 |true=>exact⟨H1,I1,q1⟩
 |false=>exact hb wh pins s1 σ H1 Q I1 q1
theorem aIP(ha:PT X a tA):PT X (.UnaryOp .Not a pos) (aMU tA):=by
 intro pins s σ H Q I h
 exact isTrue_not (ha pins s σ H (fun c H1=>Q (!c) H1) I h)
def aD1(ta tb:TE):TE:=fun σ H Q=>ta σ H fun x H1=>∃c,x=.bl c/\if c=true then tb σ H1 Q else Q (.bl false) H1
def aLP(ta tb:TE):TE:=fun σ H Q=>ta σ H fun x H1=>∃c,x=.bl c/\if c=true then Q (.bl true) H1 else tb σ H1 Q
def aDK(ta:TE):TE:=fun σ H Q=>ta σ H fun x H1=>∃c,x=.bl c/\Q (.bl (!c)) H1
theorem aK4{op}{t:TE}(h:PE X a t):PE X (.BoolOp op [a] pos) t:=fun pins s σ H Q I hw=>BoolOp_one (h pins s σ H Q I hw)
theorem aG6(ha:PE X a ta)(hb:PE X (.BoolOp .And (b::rest) pos) tb):PE X (.BoolOp .And (a::b::rest) pos) (aD1 ta tb):=by
 intro pins s σ H Q I h
 refine BoolOp_and (thn (ha pins s σ H _ I h) fun v s1 ⟨x,H1,I1,r1,q1⟩=>?_)
 obtain⟨c,rfl,q1⟩:=q1
 cases r1
 refine wpAny_truthy_bool ?_
 cases c with
 |true=>exact hb pins s1 σ H1 Q I1 q1
 |false=>exact⟨.bl false,H1,I1,rfl,q1⟩
theorem aN0(ha:PE X a ta)(hb:PE X (.BoolOp .Or (b::rest) pos) tb):PE X (.BoolOp .Or (a::b::rest) pos) (aLP ta tb):=by
 intro pins s σ H Q I h
 refine BoolOp_or (thn (ha pins s σ H _ I h) fun v s1 ⟨x,H1,I1,r1,q1⟩=>?_)
 obtain⟨c,rfl,q1⟩:=q1
 cases r1
 refine wpAny_truthy_bool ?_
 cases c with
 |false=>exact hb pins s1 σ H1 Q I1 q1
 |true=>exact⟨.bl true,H1,I1,rfl,q1⟩
theorem aKV(ha:PE X a ta):PE X (.UnaryOp .Not a pos) (aDK ta):=by
 intro pins s σ H Q I h
 refine UnaryOp_ (thn (ha pins s σ H _ I h) fun v s1 ⟨x,H1,I1,r1,q1⟩=>?_)
 obtain⟨c,rfl,q1⟩:=q1
 cases r1
 exact not_of (wpAny_truthy_bool ⟨.bl (!c),H1,I1,rfl,q1⟩)
def tIf(t:TT)(ta tb:TE):TE:=fun σ H Q=>t σ H fun c H1=>if c=true then ta σ H1 Q else tb σ H1 Q
theorem axD{c:Expr}(hc:PT X c tA)(ha:PE X a ta)(hb:PE X b tb):PE X (.IfExp c a b pos) (tIf tA ta tb):=by
 intro pins s σ H Q I h
 refine wpAny_IfExp (thn (hc pins s σ H _ I h) fun d s1 ⟨H1,I1,q1⟩=>?_)
 cases d with
 |true=>exact ha pins s1 σ H1 Q I1 q1
 |false=>exact hb pins s1 σ H1 Q I1 q1
end
def SqL(K:PySem.W.Frag)(H:Hp)(a:Addr)(xs:List V):Prop:=
 Rd H a (.lst xs)∨
  ∃(o:Obj) (its:Array Value) (n:Nat),K.lookup a=some o/\o.cls=.type "list"/\o.dict=none/\o.data=.seq its n/\its.size<=sizeLine/\Vals xs its.toList
def SqT(K:PySem.W.Frag)(H:Hp)(a:Addr)(xs:List V):Prop:=
 Rd H a (.tup xs)∨
  ∃(o:Obj) (its:Array Value) (n:Nat),K.lookup a=some o/\o.cls=.type "tuple"/\o.data=.seq its n/\its.size<=sizeLine/\Vals xs its.toList
def absV:Value->Option V
 |.none=>some .non
 |.bool b=>some (.bl b)
 |.int i _=>some (.int i)
 |.str x _=>some (.str x)
 |.bytes b _=>some (.byt b)
 |.float b _=>some (.flt b)
 |.ref a=>some (.ref a)
 |.type n=>some (.ty n)
 |_=>none
theorem RelV.abs{x:V}{u:Value}(r:RelV x u):absV u=some x:=by
 cases x with
 |non=>cases r;rfl
 |bl _=>cases r;rfl
 |int _=>obtain⟨t,rfl⟩:=r;rfl
 |str _=>obtain⟨t,rfl⟩:=r;rfl
 |byt _=>obtain⟨t,rfl⟩:=r;rfl
 |flt _=>obtain⟨t,rfl⟩:=r;rfl
 |ref _=>cases r;rfl
 |ty _=>cases r;rfl
theorem RelV.inj{x y:V}{u:Value}(r:RelV x u)(q:RelV y u):x=y:=Option.some.inj (r.abs.symm.trans q.abs)
theorem Vals.inj:∀{xs ys:List V} {us:List Value},Vals xs us->Vals ys us->xs=ys
 |_,_,_,.nil,.nil=>rfl
 |_,_,_,.cons r t,.cons r' t'=>by rw[r.inj r',Vals.inj t t']
section
variable{X:Cx}{pins:List (Addr×Obj)}{σ:St}{H:Hp}{s:Shared}{a:Addr}{xs ys:List V}
theorem SqL.of{K:PySem.W.Frag}(h:H a=some (.lst xs)):SqL K H a xs:=.inl (.inl h)
theorem SqT.of{K:PySem.W.Frag}(h:H a=some (.tup xs)):SqT K H a xs:=.inl (.inl h)
theorem Inv.list(I:Inv X pins σ H s)(h:SqL X.K H a xs):∃its:List Value,Vals xs its/\PlainL s.heap a its.toArray/\xs.length<=sizeLine:=by
 rcases h with h | ⟨o,its,n,hk,hc,hd,hs,hz,r⟩
 ·obtain⟨z,its,n,r,e⟩:=h.ok I.hok
  exact⟨its,r,⟨_,n,e,rfl,rfl,rfl⟩,z⟩
 ·refine⟨its.toList,r,⟨o,n,I.kIn a o hk,hc,hd,by simpa using hs⟩,?_⟩
  have e:=r.length
  simp only[Array.length_toList] at e
  omega
theorem Inv.tuple(I:Inv X pins σ H s)(h:SqT X.K H a xs):∃its:List Value,Vals xs its/\IsTup s.heap a its.toArray/\xs.length<=sizeLine:=by
 rcases h with h | ⟨o,its,n,hk,hc,hs,hz,r⟩
 ·obtain⟨z,its,r,p⟩:=h.ok I.hok
  exact⟨its,r,p,z⟩
 ·refine⟨its.toList,r,⟨o,I.kIn a o hk,hc,n,by simpa using hs⟩,?_⟩
  have e:=r.length
  simp only[Array.length_toList] at e
  omega
theorem Inv.list_inj(I:Inv X pins σ H s)(h:SqL X.K H a xs)(h':SqL X.K H a ys):xs=ys:=by
 obtain⟨its,r,⟨o,n,e,_,_,d⟩,_⟩:=I.list h
 obtain⟨its',r',⟨o',n',e',_,_,d'⟩,_⟩:=I.list h'
 rw[e] at e';cases e'
 rw[d] at d'
 injection d' with d1 _
 have:its=its':=by simpa using congrArg Array.toList d1
 subst this
 exact r.inj r'
theorem Inv.tuple_inj(I:Inv X pins σ H s)(h:SqT X.K H a xs)(h':SqT X.K H a ys):xs=ys:=by
 obtain⟨its,r,⟨o,e,_,n,d⟩,_⟩:=I.tuple h
 obtain⟨its',r',⟨o',e',_,n',d'⟩,_⟩:=I.tuple h'
 rw[e] at e';cases e'
 rw[d] at d'
 injection d' with d1 _
 have:its=its':=by simpa using congrArg Array.toList d1
 subst this
 exact r.inj r'
end
abbrev Cx.wish(X:Cx)(E:Value->Shared->Prop):Cx:={X with xe:=E}
abbrev Cx.nox(X:Cx):Cx:=X.wish fun _ _=>False
theorem Cx.Ok.wish{X:Cx}(ok:X.Ok)(E:Value->Shared->Prop):(X.wish E).Ok:=
 ⟨ok.mod,ok.kind,ok.glob,ok.blt,ok.above,ok.inj,ok.has,ok.cab,ok.hd,ok.frames,ok.stk,ok.exf,ok.bs,ok.bsz,ok.noex,ok.exfs,ok.funs,ok.frf⟩
theorem Cx.Ok.unwish{X:Cx}{E:Value->Shared->Prop}(ok:(X.wish E).Ok):X.Ok:=
 ⟨ok.mod,ok.kind,ok.glob,ok.blt,ok.above,ok.inj,ok.has,ok.cab,ok.hd,ok.frames,ok.stk,ok.exf,ok.bs,ok.bsz,ok.noex,ok.exfs,ok.funs,ok.frf⟩
section
variable{X:Cx}{pins:List (Addr×Obj)}{σ:St}{H:Hp}{s:Shared}{E:Value->Shared->Prop}
theorem Inv.wish(I:Inv X pins σ H s)(E:Value->Shared->Prop):Inv (X.wish E) pins σ H s:=⟨I.ok.wish E,I.os,I.bare,I.base,I.loc,I.cell,I.free,I.freeC,I.pin,I.hok,I.len⟩
theorem Inv.unwish(I:Inv (X.wish E) pins σ H s):Inv X pins σ H s:=⟨I.ok.unwish,I.os,I.bare,I.base,I.loc,I.cell,I.free,I.freeC,I.pin,I.hok,I.len⟩
theorem SP.unwish{D:Ends}{f:Flow}{s':Shared}(h:SP (X.wish E) pins D f s'):SP X pins D f s':=by
 cases f with
 |next=>obtain⟨σ',H',I,q⟩:=h;exact⟨σ',H',I.unwish,q⟩
 |brk=>obtain⟨σ',H',I,q⟩:=h;exact⟨σ',H',I.unwish,q⟩
 |cont=>obtain⟨σ',H',I,q⟩:=h;exact⟨σ',H',I.unwish,q⟩
 |ret u=>obtain⟨v,σ',H',I,r,q⟩:=h;exact⟨v,σ',H',I.unwish,r,q⟩
theorem PSs.nox{st:List Stmt}{t:TS}(h:PSs X.nox st t):PSs X st t:=fun pins s σ H D I hw=>
 wpAny_mono (h pins s σ H D (I.wish _) hw) (fun _ _ q=>q.unwish) fun _ _ z=>False.elim z
end
section
variable{X:Cx}{st:Stmt}{rest:List Stmt}{t u:TS}{e:Expr}{te:TE}{pos:Pos}
def aDY:TS:=fun D σ H=>D.nx σ H
def aM5(t u:TS):TS:=fun D σ H=>t {D with nx:=u D} σ H
theorem ayR:PSs X [] aDY:=fun _ _ σ H _ I h=>wpAny_execs_nil ⟨σ,H,I,h⟩
theorem auS(h1:PS X st t)(h2:PSs X rest u):PSs X (st::rest) (aM5 t u):=by
 intro pins s σ H D I h
 refine wpAny_execs_cons (thn (h1 pins s σ H {D with nx:=u D} I h) fun f s1 q=>?_)
 cases f with
 |next=>
  obtain⟨σ',H',I',q⟩:=q
  exact h2 pins s1 σ' H' D I' q
 |ret v=>exact q
 |brk=>exact q
 |cont=>exact q
theorem ay5(h1:PS X st t):PSs X [st] t:=by
 intro pins s σ H D I h
 refine wpAny_execs_cons (thn (h1 pins s σ H D I h) fun f s1 q=>?_)
 cases f with
 |next=>exact wpAny_execs_nil q
 |ret v=>exact q
 |brk=>exact q
 |cont=>exact q
theorem Inv.quiet{pins:List (Addr×Obj)}{σ:St}{H:Hp}{s:Shared}(I:Inv X pins σ H s):interactive X.env=false:=by simp[interactive,I.ok.kind]
def aDX(te:TE):TS:=fun D σ H=>te σ H fun _ H1=>D.nx σ H1
theorem az9(he:PE X e te)(hs:swapsWith e none pos.line X.env=pure false:=by rfl):PS X (.Expr e pos) (aDX te):=by
 intro pins s σ H D I h
 exact wpAny_Expr_any (thn (he pins s σ H _ I h) fun v s1 ⟨x,H1,I1,r1,q1⟩=>⟨σ,H1,I1,q1⟩) I.quiet hs
def aMA(te:TE):TS:=fun D σ H=>te σ H D.rt
theorem aFS(he:PE X e te):PS X (.Return (some e) pos) (aMA te):=by
 intro pins s σ H D I h
 exact wpAny_Return_some (thn (he pins s σ H _ I h) fun v s1 ⟨x,H1,I1,r1,q1⟩=>⟨x,σ,H1,I1,r1,q1⟩)
def aM7(c:TT)(t u:TS):TS:=fun D σ H=>c σ H fun b H1=>if b=true then t D σ H1 else u D σ H1
theorem aNO{c:Expr}{a b:List Stmt}{tc:TT}(hc:PT X c tc)(ha:PSs X a t)(hb:PSs X b u):PS X (.If c a b pos) (aM7 tc t u):=by
 intro pins s σ H D I h
 refine wpAny_If (thn (hc pins s σ H _ I h) fun d s1 ⟨H1,I1,q1⟩=>?_)
 cases d with
 |true=>exact ha pins s1 σ H1 D I1 q1
 |false=>exact hb pins s1 σ H1 D I1 q1
def avD:TS:=fun _ _ _=>False
theorem avO:PS X st avD:=fun _ _ _ _ _ _ h=>h.elim
end
abbrev TG:=V->St->Hp->(St->Hp->Prop)->Prop
abbrev TGs:=List V->St->Hp->(St->Hp->Prop)->Prop
def PG(X:Cx)(target:Expr)(t:TG):Prop:=
 ∀(pins:List (Addr×Obj)) (s:Shared) (σ:St) (H:Hp) (v:V) (u:Value) (Q:St->Hp->Prop),Inv X pins σ H s->RelV v u->t v σ H Q->
  wpAny (model X.prog X.w) X.A (assign target X.env u) (fun _ s'=>∃σ' H',Inv X pins σ' H' s'/\Q σ' H') X.xe s
def PGs(X:Cx)(ts:List Expr)(t:TGs):Prop:=
 ∀(pins:List (Addr×Obj)) (s:Shared) (σ:St) (H:Hp) (vs:List V) (us:List Value) (Q:St->Hp->Prop),Inv X pins σ H s->Vals vs us->t vs σ H Q->
  wpAny (model X.prog X.w) X.A (assignInOrder ((assignEach ts X.env).map (·.2)) us) (fun _ s'=>∃σ' H',Inv X pins σ' H' s'/\Q σ' H') X.xe s
section
variable{X:Cx}{pos:Pos}
def ab3(i:Nat):TG:=fun v σ H Q=>Q (σ.set i (some v)) H
theorem aBM{i:Nat}{x:Str}(hN:X.N.Nodup)(hi:X.N[i]? =some x)(hx:Loc X.env.scope x)(hf:X.fn x=true∨X.env.scope.names.lookup x=some .local:=by first | exact .inl rfl | exact .inr rfl | assumption):PG X (.Name x pos) (ab3 i):=by
 intro pins s σ H v u Q I r h
 exact wpAny_assign_Name (akJ I hN hi hx r (fun s' I'=>⟨_,H,I',h⟩) hf)
def aHH:TGs:=fun vs σ H Q=>vs=[]/\Q σ H
def ar5(t:TG)(u:TGs):TGs:=fun vs σ H Q=>∃v r,vs=v::r/\t v σ H fun σ' H'=>u r σ' H' Q
theorem azO:PGs X [] aHH:=by
 intro pins s σ H vs us Q I r h
 obtain⟨e,h⟩:=h
 subst e
 cases r
 exact assignInOrder_nil ⟨σ,H,I,h⟩
theorem awZ{e:Expr}{es:List Expr}{t:TG}{u:TGs}(h1:PG X e t)(h2:PGs X es u)
  (hs:(assignEach (e::es) X.env).map (·.2)=assign e X.env::(assignEach es X.env).map (·.2):=by rfl):PGs X (e::es) (ar5 t u):=by
 intro pins s σ H vs us Q I r h
 obtain⟨v,vr,e1,h⟩:=h
 subst e1
 cases r with
 |cons r rr=>
  rw[hs]
  refine assignInOrder_cons (thn (h1 pins s σ H _ _ _ I r h) fun _ s1 ⟨σ1,H1,I1,q1⟩=>?_)
  exact h2 pins s1 σ1 H1 _ _ Q I1 rr q1
def aAX(K:PySem.W.Frag)(n:Nat)(t:TGs):TG:=fun v σ H Q=>∃a xs,v=.ref a/\SqT K H a xs/\xs.length=n/\t xs σ H Q
theorem aFT{es:List Expr}{k:Nat}{t:TGs}{n:Nat}(hc:X.calm=true)(h:PGs X es t)
  (hn:(assignEach es X.env).length=n:=by rfl) (hst:(assignEach es X.env).findIdx? (·.1)=none:=by rfl):PG X (.Tuple es k pos) (aAX X.K n t):=by
 intro pins s σ H v u Q I r hw
 obtain⟨a,xs,e1,hq,hl,hw⟩:=hw
 subst e1
 cases r
 obtain⟨its,rv,ht,hz⟩:=I.tuple hq
 refine assign_Tuple_tuple (I.ok.hd hc) ht (by simp[hn,←hl,rv.length]) hst fun h' hx=>?_
 have I1:Inv X pins σ H {s with heap:=h'}:=I.kept (t':=s.toks) fun b o e=>hx b o (Nat.ne_of_lt (Heap.lt_size e)) e
 exact h pins _ σ H xs _ Q I1 (by simpa using rv) hw
def avS(te:TE)(g:TG):TS:=fun D σ H=>te σ H fun x H1=>g x σ H1 D.nx
theorem aK0{tg e:Expr}{te:TE}{g:TG}(he:PE X e te)(hg:PG X tg g)(hs:swapsWithSole [tg] e pos.line X.env=pure false:=by rfl)(hw:swappedStores [tg] e X.env=pure none:=by rfl)
  (h1:(assignEach [tg] X.env).map (·.2)=[assign tg X.env]:=by rfl):PS X (.Assign [tg] e pos) (avS te g):=by
 intro pins s σ H D I h
 refine wpAny_Assign_stores (thn (he pins s σ H _ I h) fun v s1 ⟨x,H1,I1,r1,q1⟩=>?_) hs hw
 rw[h1]
 exact thn (hg pins s1 σ H1 x v _ I1 r1 q1) fun _ s2 q=>q
theorem aHC{i:Nat}{x:Str}{e:Expr}{te:TE}{pos':Pos}(hN:X.N.Nodup)(hi:X.N[i]? =some x)(hx:Loc X.env.scope x)(he:PE X e te)(hs:swapsWith e (some (.Name x pos')) pos.line X.env=pure false:=by rfl)(hf:X.fn x=true∨X.env.scope.names.lookup x=some .local:=by first | exact .inl rfl | exact .inr rfl | assumption):
  PS X (.Assign [.Name x pos'] e pos) (avS te (ab3 i)):=by
 intro pins s σ H D I h
 refine wpAny_Assign_Name (thn (he pins s σ H _ I h) fun v s1 ⟨y,H1,I1,r1,q1⟩=>?_) hs
 exact akJ I1 hN hi hx r1 (fun s2 I2=>⟨_,H1,I2,q1⟩) hf
end
section
variable{X:Cx}{pos:Pos}
def aqV(c:TT)(tb:TS):TS:=fun D σ H=>∃W:Nat->St->Hp->Prop,(∃m,W m σ H)/\∀m σ H,W m σ H->
 c σ H fun b H1=>if b=true then ∃N:St->Hp->Prop,(∀σ' H',N σ' H'->∃m',m'<m/\W m' σ' H')/\tb {D with nx:=N,ct:=N,bk:=D.nx} σ H1 else D.nx σ H1
theorem axC{c:Expr}{body:List Stmt}{tc:TT}{tb:TS}(hp:PassesOwn (model X.prog X.w) X.A X.env X.xe)(hc:PT X c tc)(hb:PSs X body tb):PS X (.While c body [] pos) (aqV tc tb):=by
 intro pins s σ H D I h
 obtain⟨W,⟨m0,w0⟩,turn⟩:=h
 refine wpAny_While (codeAny_whileLoop (fun n s'=>∃σ' H',Inv X pins σ' H' s'/\W n σ' H') ?_ m0 ⟨σ,H,I,w0⟩)
 rintro n s1 ⟨σ1,H1,I1,w1⟩
 refine wpAny_passesOwn hp (thn (hc pins s1 σ1 H1 _ I1 (turn n σ1 H1 w1)) fun b s2 ⟨H2,I2,q2⟩=>?_)
 cases b with
 |true=>
  obtain⟨N,hN,q2⟩:=q2
  rw[if_pos rfl]
  refine wpAny_passesOwn hp (thn (hb pins s2 σ1 H2 _ I2 q2) fun f s3 q3=>?_)
  cases f with
  |next=>
   obtain⟨σ3,H3,I3,n3⟩:=q3
   obtain⟨m',hm,w3⟩:=hN σ3 H3 n3
   exact⟨m',hm,σ3,H3,I3,w3⟩
  |cont=>
   obtain⟨σ3,H3,I3,n3⟩:=q3
   obtain⟨m',hm,w3⟩:=hN σ3 H3 n3
   exact⟨m',hm,σ3,H3,I3,w3⟩
  |brk=>exact q3
  |ret v=>exact q3
 |false=>
  rw[if_neg Bool.false_ne_true]
  exact wpAny_execs_nil ⟨σ1,H2,I2,q2⟩
end
structure It where
 go:Nat->Hp->Prop
 yld:Nat->Hp->V->Hp->Prop
 stop:Nat->Hp->Prop
def adE(X:Cx)(pins:List (Addr×Obj))(H:Hp)(b:Addr):Prop:=
 H b=none/\b≠X.env.locals/\b∉X.fs/\(b∈X.ex∨X.s₀.heap.objs.size<=b)/\(∀x c,X.env.cells.lookup x=some c->c≠b)/\∀p∈X.pn++pins,p.1≠b
theorem Inv.fpOk{X:Cx}{pins:List (Addr×Obj)}{σ:St}{H H':Hp}{s:Shared}{b:Addr}(I:Inv X pins σ H s)(hb:s.heap.objs.size<=b)(hn:H' b=none):adE X pins H' b:=by
 refine⟨hn,Nat.ne_of_gt (Nat.lt_of_lt_of_le I.lt hb),I.nofs hb,.inr (Nat.le_trans I.sz hb),fun x c e z=>?_,fun p hp z=>?_⟩
 ·obtain⟨v,q⟩:=I.cell x c e
  exact absurd (Nat.lt_of_lt_of_le q.lt (by rw[z];exact hb)) (Nat.lt_irrefl _)
 ·exact absurd (Nat.lt_of_lt_of_le (Heap.lt_size (I.pin p hp).1) (by rw[z];exact hb)) (Nat.lt_irrefl _)
structure Turn(P:Program)(w:World)(K:PySem.W.Frag)(tg:Expr)(J:It)(fp:List Addr)(it:Addr)(tn:Nat->Heap->Prop):Prop where
 mem:it∈fp
 obj:∀i h,tn i h->∀b∈fp,∃o,h.get? b=some o/\∀v,o.data≠ .cell v
 keep:∀i h h',tn i h->(∀b∈fp,∀o,h.get? b=some o->h'.get? b=some o)->tn i h'
 item:∀(X:Cx),X.prog=P->X.w=w->X.K=K->X.calm=true->∀(i:Nat) (pins:List (Addr×Obj)) (s:Shared) (σ:St) (H:Hp) (E:Value->Shared->Prop),Inv X pins σ H s->(∀b∈fp,adE X pins H b)->tn i s.heap->J.go i H->
  wpAny (model P w) X.A (pyNext (.ref it)) (fun r s1=>∃u,r=some u/\
   wpAny (model P w) X.A (letOwnedTupleGo tg (.ref it) u) (fun _ s2=>∃x H',Inv X pins σ H' s2/\RelV x u/\J.yld i H x H'/\tn (i+1) s2.heap/\∀b∈fp,H' b=none) E s1) E s
 done:∀(X:Cx),X.prog=P->X.w=w->X.K=K->X.calm=true->∀(i:Nat) (pins:List (Addr×Obj)) (s:Shared) (σ:St) (H:Hp) (E:Value->Shared->Prop),Inv X pins σ H s->(∀b∈fp,adE X pins H b)->tn i s.heap->J.stop i H->
  wpAny (model P w) X.A (pyNext (.ref it)) (fun r s1=>r=none/\Inv X pins σ H s1) E s
 self:∀(A:Around) (i:Nat) (s:Shared) (Q:Value->Shared->Prop) (E:Value->Shared->Prop),tn i s.heap->Q (.ref it) s->wpAny (model P w) A (pyIter (.ref it)) Q E s
abbrev TI:=St->Hp->(It->Hp->Prop)->Prop
def PIE(X:Cx)(pins:List (Addr×Obj))(σ:St)(tg:Expr)(R:It->Hp->Prop)(itv:Value)(s2:Shared):Prop:=
 ∃(it:Addr) (fp:List Addr) (tn:Nat->Heap->Prop) (J:It) (H':Hp),itv=.ref it/\Inv X pins σ H' s2/\Turn X.prog X.w X.K tg J fp it tn/\tn 0 s2.heap/\(∀b∈fp,adE X pins H' b)/\R J H'
def PI(X:Cx)(tg iter:Expr)(wi:TI):Prop:=
 ∀(pins:List (Addr×Obj)) (s:Shared) (σ:St) (H:Hp) (R:It->Hp->Prop),Inv X pins σ H s->wi σ H R->
  wpAny (model X.prog X.w) X.A (eval iter X.env) (fun v s1=>wpAny (model X.prog X.w) X.A (pyIter v) (PIE X pins σ tg R) X.xe s1) X.xe s
theorem an5{M:Model}{A:Around}{E:Value->Shared->Prop}{s:Shared}{tg:Expr}{it:Addr}{u:Value}{o:Obj}{n:String}{vs:Array Value}{Q:Unit->Shared->Prop}(ho:s.heap.get? it=some o)(hc:o.cls=.type n)(hd:o.data=.fields vs)
  (hn:["enumerate","zip","dict_itemiterator","dict_reverseitemiterator","odict_iterator","itertools.zip_longest","itertools.pairwise"].contains n=false) (hQ:Q () s):wpAny M A (letOwnedTupleGo tg (.ref it) u) Q E s:=by
 unfold letOwnedTupleGo
 cases tg<;>first
  |exact wpAny_pure hQ
  |(cases u<;>first
    |exact wpAny_pure hQ
    |(refine wpAny_bind (wpAny_load ho ?_)
      rw[hc,hd]
      show wpAny M A (if (["enumerate","zip","dict_itemiterator","dict_reverseitemiterator","odict_iterator","itertools.zip_longest","itertools.pairwise"].contains n&&vs[0]? ==some (rawInt _))=true then _ else _) Q E s
      rw[if_neg (by intro h;rw[hn,Bool.false_and] at h;cases h)]
      exact wpAny_pure hQ))
def Itl(K:PySem.W.Frag)(a:Addr):It:=
 ⟨fun i H=>∃xs x,SqL K H a xs/\xs[i]? =some x,fun i H x H'=>H'=H/\∀xs,SqL K H a xs->xs[i]? =some x,fun i H=>∃xs,SqL K H a xs/\xs.length<=i⟩
def Itt(K:PySem.W.Frag)(a:Addr):It:=
 ⟨fun i H=>∃xs x,SqT K H a xs/\xs[i]? =some x,fun i H x H'=>H'=H/\∀xs,SqT K H a xs->xs[i]? =some x,fun i H=>∃xs,SqT K H a xs/\xs.length<=i⟩
def Itr(lo:Int)(n:Nat):It:=⟨fun i _=>i<n,fun i H x H'=>H'=H/\x=.int (lo+i),fun i _=>n<=i⟩
theorem atS{P:Program}{w:World}{K:PySem.W.Frag}{tg:Expr}(a it:Addr):Turn P w K tg (Itl K a) [it] it (fun i h=>h.IsListIter it a i) where
 mem:=by simp
 obj:=fun i h st b hb=>by
  have e:b=it:=by simpa using hb
  subst e
  obtain⟨o,e,c,d⟩:=st
  exact⟨o,e,fun v z=>by rw[d] at z;cases z⟩
 keep:=fun i h h' st k=>st.at fun o e=>k it (by simp) o e
 item:=by
  intro X hP hw hK hc i pins s σ H E I hf st hg
  subst hP hw hK
  obtain⟨xs,x,hq,hx⟩:=hg
  obtain⟨its,rv,p,hz⟩:=I.list hq
  obtain⟨u,hu,ru⟩:=rv.get hx
  obtain⟨f0,f1,f2,f3,f4,f5⟩:=hf it (by simp)
  refine wpAny_pyNext_list_item st p.isList (x:=u) (by simpa using hu) fun h' st' sb=>?_
  have I1:Inv X pins σ H {s with heap:=h'}:=I.turned (t':=s.toks) (fun b o hb e=>(sb.2 b hb).trans e) f0 f1 f3 f4 f5
  obtain⟨o,e,c,d⟩:=id st'
  exact⟨u,rfl,an5 (s:={s with heap:=h'}) e c d (by decide) ⟨x,H,I1,ru,⟨rfl,fun ys hy=>by rw[I.list_inj hy hq];exact hx⟩,st',fun b hb=>(hf b hb).1⟩⟩
 done:=by
  intro X hP hw hK hc i pins s σ H E I hf st hg
  subst hP hw hK
  obtain⟨xs,hq,hx⟩:=hg
  obtain⟨its,rv,p,hz⟩:=I.list hq
  obtain⟨f0,f1,f2,f3,f4,f5⟩:=hf it (by simp)
  have hl:=rv.length
  exact wpAny_pyNext_list_end (I.ok.hd hc) st p.isList (by simp;omega) fun h' eb=>⟨rfl,I.turned (t':=s.toks) (fun b o hb e=>eb b o hb e) f0 f1 f3 f4 f5⟩
 self:=fun _ _ _ _ _ st h=>wpAny_pyIter_listiter st h
theorem ap7{P:Program}{w:World}{K:PySem.W.Frag}{tg:Expr}(a it:Addr):Turn P w K tg (Itt K a) [it] it (fun i h=>h.IsTupleIter it a i) where
 mem:=by simp
 obj:=fun i h st b hb=>by
  have e:b=it:=by simpa using hb
  subst e
  obtain⟨o,e,c,d⟩:=st
  exact⟨o,e,fun v z=>by rw[d] at z;cases z⟩
 keep:=fun i h h' st k=>st.at fun o e=>k it (by simp) o e
 item:=by
  intro X hP hw hK hc i pins s σ H E I hf st hg
  subst hP hw hK
  obtain⟨xs,x,hq,hx⟩:=hg
  obtain⟨its,rv,p,hz⟩:=I.tuple hq
  obtain⟨u,hu,ru⟩:=rv.get hx
  obtain⟨f0,f1,f2,f3,f4,f5⟩:=hf it (by simp)
  refine wpAny_pyNext_tuple_item st (show s.heap.IsTuple a its.toArray from p) (x:=u) (by simpa using hu) fun h' st' sb=>?_
  have I1:Inv X pins σ H {s with heap:=h'}:=I.turned (t':=s.toks) (fun b o hb e=>(sb.2 b hb).trans e) f0 f1 f3 f4 f5
  obtain⟨o,e,c,d⟩:=id st'
  exact⟨u,rfl,an5 (s:={s with heap:=h'}) e c d (by decide) ⟨x,H,I1,ru,⟨rfl,fun ys hy=>by rw[I.tuple_inj hy hq];exact hx⟩,st',fun b hb=>(hf b hb).1⟩⟩
 done:=by
  intro X hP hw hK hc i pins s σ H E I hf st hg
  subst hP hw hK
  obtain⟨xs,hq,hx⟩:=hg
  obtain⟨its,rv,p,hz⟩:=I.tuple hq
  obtain⟨f0,f1,f2,f3,f4,f5⟩:=hf it (by simp)
  have hl:=rv.length
  exact wpAny_pyNext_tuple_end (I.ok.hd hc) st (show s.heap.IsTuple a its.toArray from p) (by simp;omega) fun h' eb=>⟨rfl,I.turned (t':=s.toks) (fun b o hb e=>eb b o hb e) f0 f1 f3 f4 f5⟩
 self:=fun _ _ _ _ _ st h=>wpAny_pyIter_tupleiter st h
theorem aq8{P:Program}{w:World}{K:PySem.W.Frag}{tg:Expr}(it:Addr)(lo:Int)(n:Nat):Turn P w K tg (Itr lo n) [it] it (fun i h=>IsRangeIter h it (lo+(i:Nat)*1) ((n:Int)-(i:Nat)) 1) where
 mem:=by simp
 obj:=fun i h st b hb=>by
  have e:b=it:=by simpa using hb
  subst e
  exact⟨_,st,fun v z=>by
   have z':Data.fields _=Data.cell v:=z
   cases z'⟩
 keep:=fun i h h' st k=>k it (by simp) _ st
 item:=by
  intro X hP hw hK hc i pins s σ H E I hf st hg
  subst hP hw hK
  obtain⟨f0,f1,f2,f3,f4,f5⟩:=hf it (by simp)
  have W:=Walks.range (prog:=X.prog) (w:=X.w) (I.ok.hd hc) it lo 1 n
  refine W.item i s _ _ hg st fun v h' tk hv st' kk=>?_
  obtain⟨t,rfl⟩:=hv
  have I1:Inv X pins σ H {s with heap:=h',toks:=tk}:=I.turned (fun b o hb e=>kk b o (by simpa using hb) e) f0 f1 f3 f4 f5
  refine⟨_,rfl,an5 (s:={s with heap:=h',toks:=tk}) (n:="range_iterator") st' rfl rfl (by decide) ⟨.int (lo+i),H,I1,⟨t,?_⟩,⟨rfl,rfl⟩,st',fun b hb=>(hf b hb).1⟩⟩
  rw[Int.mul_one]
 done:=by
  intro X hP hw hK hc i pins s σ H E I hf st hg
  subst hP hw hK
  obtain⟨f0,f1,f2,f3,f4,f5⟩:=hf it (by simp)
  exact wpAny_pyNext_range_end (I.ok.hd hc) st (by have:n<=i:=hg;omega) fun h' eb=>⟨rfl,I.turned (t':=s.toks) (fun b o hb e=>eb b o hb e) f0 f1 f3 f4 f5⟩
 self:=fun _ _ _ _ _ st h=>wpAny_pyIter_rangeiter st h
section
variable{X:Cx}{tg:Expr}
def aDW(K:PySem.W.Frag)(tl:TE):TI:=fun σ H R=>tl σ H fun x H1=>∃a,x=.ref a/\(∃xs,SqL K H1 a xs)/\R (Itl K a) H1
def aMV(K:PySem.W.Frag)(tl:TE):TI:=fun σ H R=>tl σ H fun x H1=>∃a,x=.ref a/\(∃xs,SqT K H1 a xs)/\R (Itt K a) H1
theorem aC5{l:Expr}{tl:TE}(hl:PE X l tl):PI X tg l (aDW X.K tl):=by
 intro pins s σ H R I h
 refine thn (hl pins s σ H _ I h) fun v s1 ⟨x,H1,I1,r1,q1⟩=>?_
 obtain⟨a,e,⟨xs,hq⟩,q⟩:=q1
 subst e
 cases r1
 obtain⟨its,rv,p,hz⟩:=I1.list hq
 refine wpAny_pyIter_list p.isList ?_
 refine⟨s1.heap.objs.size,[s1.heap.objs.size],_,_,H1,rfl,I1.kept (t':=s1.toks) fun b o e=>Heap.get?_push_of_some _ e,atS a _,⟨_,Heap.get?_push_size _ rfl,rfl,rfl⟩,fun b hb=>?_,q⟩
 have e:b=s1.heap.objs.size:=by simpa using hb
 subst e
 exact I1.fpOk (Nat.le_refl _) (I1.hok.fresh (Nat.le_refl _))
theorem aFH{l:Expr}{tl:TE}(hl:PE X l tl):PI X tg l (aMV X.K tl):=by
 intro pins s σ H R I h
 refine thn (hl pins s σ H _ I h) fun v s1 ⟨x,H1,I1,r1,q1⟩=>?_
 obtain⟨a,e,⟨xs,hq⟩,q⟩:=q1
 subst e
 cases r1
 obtain⟨its,rv,p,hz⟩:=I1.tuple hq
 refine wpAny_pyIter_tuple (show s1.heap.IsTuple a its.toArray from p) ?_
 refine⟨s1.heap.objs.size,[s1.heap.objs.size],_,_,H1,rfl,I1.kept (t':=s1.toks) fun b o e=>Heap.get?_push_of_some _ e,ap7 a _,⟨_,Heap.get?_push_size _ rfl,rfl,rfl⟩,fun b hb=>?_,q⟩
 have e:b=s1.heap.objs.size:=by simpa using hb
 subst e
 exact I1.fpOk (Nat.le_refl _) (I1.hok.fresh (Nat.le_refl _))
theorem aoZ{pins:List (Addr×Obj)}{σ:St}{H:Hp}{s:Shared}{R:It->Hp->Prop}{E:Value->Shared->Prop}{lo hi:Int}{t u v:Tok}{tk:Nat}(I:Inv X pins σ H s)(h1: -(2^62)<=lo)(h2:lo<2^62)(h3: -(2^62)<=hi)(h4:hi<2^62)
  (q:R (Itr lo (hi-lo).toNat) H):wpAny (model X.prog X.w) X.A (pyIter (.ref s.heap.objs.size)) (PIE X pins σ tg R) E {s with heap:=s.heap.push {cls:=.type "range",data:=.fields #[.int lo t,.int hi u,.int 1 v]},toks:=tk}:=by
 refine wpAny_pyIter_range (IsRange.new ..) (small_one h1 h2 h3 h4) ?_
 have I1:Inv X pins σ H {s with heap:=s.heap.push {cls:=.type "range",data:=.fields #[.int lo t,.int hi u,.int 1 v]},toks:=tk}:=I.kept fun b o e=>Heap.get?_push_of_some _ e
 refine⟨(s.heap.push {cls:=.type "range",data:=.fields #[.int lo t,.int hi u,.int 1 v]}).objs.size,[(s.heap.push {cls:=.type "range",data:=.fields #[.int lo t,.int hi u,.int 1 v]}).objs.size],_,_,H,rfl,
  I1.kept (t':=tk) fun b o e=>Heap.get?_push_of_some _ e,aq8 _ lo (hi-lo).toNat,?_,fun b hb=>?_,q⟩
 ·have e1:lo+((0:Nat):Int)*1=lo:=by simp
  have e2:(((hi-lo).toNat:Nat):Int)-((0:Nat):Int)=Builtin.Range.rangeSize lo hi 1:=by rw[rangeSize_one];split<;>omega
  show IsRangeIter _ _ (lo+((0:Nat):Int)*1) ((((hi-lo).toNat:Nat):Int)-((0:Nat):Int)) 1
  rw[e1,e2]
  exact Heap.get?_push_size _ rfl
 ·have e:b=(s.heap.push {cls:=.type "range",data:=.fields #[.int lo t,.int hi u,.int 1 v]}).objs.size:=by simpa using hb
  subst e
  exact I1.fpOk (Nat.le_refl _) (I1.hok.fresh (Nat.le_refl _))
def aDO(ta:TA):TI:=fun σ H R=>ta σ H fun vs H1=>∃j:Int,vs=[.int j]/\ -(2^62)<=j/\j<2^62/\R (Itr 0 j.toNat) H1
def aD6(ta:TA):TI:=fun σ H R=>ta σ H fun vs H1=>∃i j:Int,vs=[.int i,.int j]/\(-(2^62)<=i/\i<2^62/\ -(2^62)<=j/\j<2^62)/\R (Itr i (j-i).toNat) H1
theorem atF{a:Expr}{ta:TA}{p pos:Pos}(hg:Gl X "range")(hm:X.mg "range"=none)(ha:PA X [a] ta)(hs:starEach [a] X.env=[(false,eval a X.env)]:=by rfl):PI X tg (.Call (.Name "range" p) [a] [] pos) (aDO ta):=by
 intro pins s σ H R I h
 refine Call_ (agQ I hg hm boot_range (PyProof.Rows.callWith_type1 (thn (ha pos pins s σ H _ I h) fun us s1 ⟨vs,H1,I1,r1,q1⟩=>?_) hs rfl))
 obtain⟨j,e,q1,q2,q⟩:=q1
 subst e
 cases r1 with
 |cons r rr=>
  cases rr
  obtain⟨t,rfl⟩:=r
  exact call_range_1 (aoZ I1 (by omega) (by omega) q1 q2 (by simpa using q))
theorem asX{a b:Expr}{ta:TA}{p pos:Pos}(hg:Gl X "range")(hm:X.mg "range"=none)(ha:PA X [a,b] ta)(hs:starEach [a,b] X.env=[(false,eval a X.env),(false,eval b X.env)]:=by rfl)(hs2:starEach [b] X.env=[(false,eval b X.env)]:=by rfl):
  PI X tg (.Call (.Name "range" p) [a,b] [] pos) (aD6 ta):=by
 intro pins s σ H R I h
 refine Call_ (agQ I hg hm boot_range (PyProof.Rows.callWith_type1 (thn (ha pos pins s σ H _ I h) fun us s1 ⟨vs,H1,I1,r1,q1⟩=>?_) (by rw[hs,hs2]) (by rw[hs2];rfl)))
 obtain⟨i,j,e,⟨q1,q2,q3,q4⟩,q⟩:=q1
 subst e
 cases r1 with
 |cons r rr=>
  cases rr with
  |cons r' rr=>
   cases rr
   obtain⟨t,rfl⟩:=r
   obtain⟨t',rfl⟩:=r'
   exact call_range_2 (aoZ I1 q1 q2 q3 q4 q)
def aNM(wi:TI)(g:TG)(tb:TS):TS:=fun D σ H=>wi σ H fun J H1=>∃W:Nat->Nat->St->Hp->Prop,(∃m,W 0 m σ H1)/\∀i m σ H,W i m σ H->
 (J.stop i H/\D.nx σ H)∨(J.go i H/\∃N:St->Hp->Prop,(∀σ' H',N σ' H'->∃m',m'<m/\W (i+1) m' σ' H')/\∀x H',J.yld i H x H'->g x σ H' fun σ2 H2=>tb {D with nx:=N,ct:=N,bk:=D.nx} σ2 H2)
def afJ(fp:List Addr)(h:Heap):List (Addr×Obj):=fp.filterMap fun b=>(h.get? b).map fun o=>(b,o)
theorem abO{fp:List Addr}{h:Heap}{b:Addr}{o:Obj}(hb:b∈fp)(e:h.get? b=some o):(b,o)∈afJ fp h:=List.mem_filterMap.mpr ⟨b,hb,by rw[e];rfl⟩
theorem as3{fp:List Addr}{h:Heap}{p:Addr×Obj}(hp:p∈afJ fp h):p.1∈fp/\h.get? p.1=some p.2:=by
 obtain⟨b,hb,e⟩:=List.mem_filterMap.mp hp
 cases q:h.get? b with
 |none=>rw[q] at e;cases e
 |some o=>
  rw[q] at e
  have e':(b,o)=p:=Option.some.inj e
  subst e'
  exact⟨hb,q⟩
theorem Inv.pinned{pins:List (Addr×Obj)}{σ:St}{H:Hp}{s:Shared}{fp:List Addr}(I:Inv X pins σ H s)(hf:∀b∈fp,adE X pins H b)(ho:∀b∈fp,∃o,s.heap.get? b=some o/\∀v,o.data≠ .cell v):Inv X (pins++afJ fp s.heap) σ H s:=
 I.pins_of fun p hp=>(List.mem_append.mp hp).elim (fun z=>I.pin p (List.mem_append_right _ z)) fun z=>by
  obtain⟨hb,e⟩:=as3 z
  obtain⟨f0,f1,f2,_⟩:=hf p.1 hb
  obtain⟨o,e',d⟩:=ho p.1 hb
  rw[e] at e';cases e'
  exact⟨e,f0,f1,f2,d⟩
theorem Inv.unpinned{pins pl:List (Addr×Obj)}{σ:St}{H:Hp}{s:Shared}(I:Inv X (pins++pl) σ H s):Inv X pins σ H s:=I.pins_of fun p hp=>I.pin p (List.mem_append_right _ (List.mem_append_left _ hp))
theorem aJ3{iter:Expr}{body:List Stmt}{wi:TI}{g:TG}{tb:TS}{pos:Pos}(hp:PassesOwn (model X.prog X.w) X.A X.env X.xe)(hc:X.calm=true)(hi:PI X tg iter wi)(hg:PG X tg g)(hb:PSs X body tb)
  (hs:∀x,foldedSetIterable iter X.env x=pure x:=by intro _;rfl):PS X (.For tg iter body [] pos) (aNM wi g tb):=by
 intro pins s σ H D I h
 refine wpAny_For (thn (hi pins s σ H _ I h) fun v s1 h1=>thn h1 fun itv s2 h2=>?_) hs
 obtain⟨it,fp,tn,J,H2,e,I2,T,st2,f2,W,⟨m0,w0⟩,turn⟩:=h2
 subst e
 -- what stays true of the iterator's objects through the loop
 have stat:∀{H':Hp},(∀b∈fp,H' b=none)->∀b∈fp,adE X pins H' b:=fun hn b hb=>⟨hn b hb,(f2 b hb).2⟩
 refine codeAny_forLoop_any (fun n s'=>∃i σ' H',Inv X pins σ' H' s'/\tn i s'.heap/\(∀b∈fp,H' b=none)/\W i n σ' H') ?_ m0 ⟨0,σ,H2,I2,st2,fun b hb=>(f2 b hb).1,w0⟩
 rintro n s3 ⟨i,σ3,H3,I3,st3,fr3,w3⟩
 rcases turn i n σ3 H3 w3 with ⟨stop,qn⟩ | ⟨go,N,hN,step⟩
 ·refine wpAny_passesOwn hp (thn (T.done X rfl rfl rfl hc i pins s3 σ3 H3 X.xe I3 (stat fr3) st3 stop) fun r s4 ⟨hr,I4⟩=>?_)
  subst hr
  exact wpAny_execs_nil ⟨σ3,H3,I4,qn⟩
 ·refine wpAny_passesOwn hp (thn (T.item X rfl rfl rfl hc i pins s3 σ3 H3 X.xe I3 (stat fr3) st3 go) fun r s4 ⟨u,hr,h4⟩=>?_)
  subst hr
  refine wpAny_passesOwn hp (thn h4 fun _ s5 ⟨x,H5,I5,r5,y5,st5,fr5⟩=>?_)
  have I5':=I5.pinned (stat fr5) (T.obj _ _ st5)
  refine wpAny_passesOwn hp (thn (hg _ s5 σ3 H5 x u _ I5' r5 (step x H5 y5)) fun _ s6 ⟨σ6,H6,I6,q6⟩=>?_)
  refine wpAny_passesOwn hp (thn (hb _ s6 σ6 H6 _ I6 q6) fun f s7 q7=>?_)
  have again:∀{σ7:St} {H7:Hp},Inv X (pins++afJ fp s5.heap) σ7 H7 s7->N σ7 H7->∃m,m<n/\∃i σ' H',Inv X pins σ' H' s7/\tn i s7.heap/\(∀b∈fp,H' b=none)/\W i m σ' H':=fun {σ7 H7} I7 n7=>by
   obtain⟨m',hm,w7⟩:=hN σ7 H7 n7
   refine⟨m',hm,i+1,σ7,H7,I7.unpinned,T.keep _ _ _ st5 fun b hb o e=>(I7.pin (b,o) (List.mem_append_right _ (List.mem_append_right _ (abO hb e)))).1,fun b hb=>?_,w7⟩
   obtain⟨o,e,d⟩:=T.obj _ _ st5 b hb
   exact (I7.pin (b,o) (List.mem_append_right _ (List.mem_append_right _ (abO hb e)))).2.1
  cases f with
  |next=>obtain⟨σ7,H7,I7,n7⟩:=q7;exact again I7 n7
  |cont=>obtain⟨σ7,H7,I7,n7⟩:=q7;exact again I7 n7
  |brk=>obtain⟨σ7,H7,I7,q7⟩:=q7;exact⟨σ7,H7,I7.unpinned,q7⟩
  |ret v=>obtain⟨x7,σ7,H7,I7,r7,q7⟩:=q7;exact⟨x7,σ7,H7,I7.unpinned,r7,q7⟩
end
theorem abS{K:PySem.W.Frag}{a:Addr}{xs:List V}{g:TG}{tb:TS}{D:Ends}{σ:St}{H:Hp}(Pv:Nat->St->Hp->Prop)(h0:Pv 0 σ H)(hl:∀i σ H,i<=xs.length->Pv i σ H->SqL K H a xs)
  (hs:∀i x σ H,xs[i]? =some x->Pv i σ H->g x σ H fun σ2 H2=>tb {D with nx:=Pv (i+1),ct:=Pv (i+1),bk:=D.nx} σ2 H2) (hd:∀σ H,Pv xs.length σ H->D.nx σ H):
  ∃W:Nat->Nat->St->Hp->Prop,(∃m,W 0 m σ H)/\∀i m σ H,W i m σ H->
   ((Itl K a).stop i H/\D.nx σ H)∨((Itl K a).go i H/\∃N:St->Hp->Prop,(∀σ' H',N σ' H'->∃m',m'<m/\W (i+1) m' σ' H')/\∀x H',(Itl K a).yld i H x H'->g x σ H' fun σ2 H2=>tb {D with nx:=N,ct:=N,bk:=D.nx} σ2 H2):=by
 refine⟨fun i m σ H=>m=xs.length-i/\i<=xs.length/\Pv i σ H,⟨xs.length,by simp,Nat.zero_le _,h0⟩,?_⟩
 rintro i m σ H ⟨rfl,hi,p⟩
 have q:=hl i σ H hi p
 by_cases hlt:i<xs.length
 ·refine .inr ⟨⟨xs,xs[i],q,by simp[hlt]⟩,Pv (i+1),fun σ' H' p'=>⟨xs.length-(i+1),by omega,rfl,hlt,p'⟩,fun x H' y=>?_⟩
  obtain⟨e,y⟩:=y
  subst e
  exact hs i x σ _ (y xs q) p
 ·have e:i=xs.length:=by omega
  subst e
  exact .inl ⟨⟨xs,q,Nat.le_refl _⟩,hd σ H p⟩
theorem aiR{K:PySem.W.Frag}{a:Addr}{xs:List V}{g:TG}{tb:TS}{D:Ends}{σ:St}{H:Hp}(Pv:Nat->St->Hp->Prop)(h0:Pv 0 σ H)(hl:∀i σ H,i<=xs.length->Pv i σ H->SqT K H a xs)
  (hs:∀i x σ H,xs[i]? =some x->Pv i σ H->g x σ H fun σ2 H2=>tb {D with nx:=Pv (i+1),ct:=Pv (i+1),bk:=D.nx} σ2 H2) (hd:∀σ H,Pv xs.length σ H->D.nx σ H):
  ∃W:Nat->Nat->St->Hp->Prop,(∃m,W 0 m σ H)/\∀i m σ H,W i m σ H->
   ((Itt K a).stop i H/\D.nx σ H)∨((Itt K a).go i H/\∃N:St->Hp->Prop,(∀σ' H',N σ' H'->∃m',m'<m/\W (i+1) m' σ' H')/\∀x H',(Itt K a).yld i H x H'->g x σ H' fun σ2 H2=>tb {D with nx:=N,ct:=N,bk:=D.nx} σ2 H2):=by
 refine⟨fun i m σ H=>m=xs.length-i/\i<=xs.length/\Pv i σ H,⟨xs.length,by simp,Nat.zero_le _,h0⟩,?_⟩
 rintro i m σ H ⟨rfl,hi,p⟩
 have q:=hl i σ H hi p
 by_cases hlt:i<xs.length
 ·refine .inr ⟨⟨xs,xs[i],q,by simp[hlt]⟩,Pv (i+1),fun σ' H' p'=>⟨xs.length-(i+1),by omega,rfl,hlt,p'⟩,fun x H' y=>?_⟩
  obtain⟨e,y⟩:=y
  subst e
  exact hs i x σ _ (y xs q) p
 ·have e:i=xs.length:=by omega
  subst e
  exact .inl ⟨⟨xs,q,Nat.le_refl _⟩,hd σ H p⟩
theorem aeI{lo:Int}{n:Nat}{g:TG}{tb:TS}{D:Ends}{σ:St}{H:Hp}(Pv:Nat->St->Hp->Prop)(h0:Pv 0 σ H)
  (hs:∀i σ H,i<n->Pv i σ H->g (.int (lo+i)) σ H fun σ2 H2=>tb {D with nx:=Pv (i+1),ct:=Pv (i+1),bk:=D.nx} σ2 H2) (hd:∀σ H,Pv n σ H->D.nx σ H):
  ∃W:Nat->Nat->St->Hp->Prop,(∃m,W 0 m σ H)/\∀i m σ H,W i m σ H->
   ((Itr lo n).stop i H/\D.nx σ H)∨((Itr lo n).go i H/\∃N:St->Hp->Prop,(∀σ' H',N σ' H'->∃m',m'<m/\W (i+1) m' σ' H')/\∀x H',(Itr lo n).yld i H x H'->g x σ H' fun σ2 H2=>tb {D with nx:=N,ct:=N,bk:=D.nx} σ2 H2):=by
 refine⟨fun i m σ H=>m=n-i/\i<=n/\Pv i σ H,⟨n,by simp,Nat.zero_le _,h0⟩,?_⟩
 rintro i m σ H ⟨rfl,hi,p⟩
 by_cases hlt:i<n
 ·refine .inr ⟨hlt,Pv (i+1),fun σ' H' p'=>⟨n-(i+1),by omega,rfl,hlt,p'⟩,fun x H' y=>?_⟩
  obtain⟨e,y⟩:=y
  subst e y
  exact hs i σ _ hlt p
 ·have e:i=n:=by omega
  subst e
  exact .inl ⟨Nat.le_refl _,hd σ H p⟩
abbrev R2:=V->V->Hp->VK->Prop
def OpR(X:Cx)(f:Value->Value->Sem Value)(r:R2):Prop:=
 ∀(pins:List (Addr×Obj)) (s:Shared) (σ:St) (H:Hp) (x y:V) (v u:Value) (Q:VK),Inv X pins σ H s->RelV x v->RelV y u->r x y H Q->
  wpAny (model X.prog X.w) X.A (f v u) (EP X pins σ Q) X.xe s
def UnR(X:Cx)(f:Value->Sem Value)(r:V->Hp->VK->Prop):Prop:=
 ∀(pins:List (Addr×Obj)) (s:Shared) (σ:St) (H:Hp) (x:V) (v:Value) (Q:VK),Inv X pins σ H s->RelV x v->r x H Q->
  wpAny (model X.prog X.w) X.A (f v) (EP X pins σ Q) X.xe s
def acM(X:Cx)(f:Value)(r:List V->Hp->VK->Prop):Prop:=
 ∀(pins:List (Addr×Obj)) (s:Shared) (σ:St) (H:Hp) (xs:List V) (us:List Value) (Q:VK),Inv X pins σ H s->Vals xs us->r xs H Q->
  wpAny (model X.prog X.w) X.A (call f us) (EP X pins σ Q) X.xe s
def tOp(r:R2)(ta tb:TE):TE:=fun σ H Q=>ta σ H fun x H1=>tb σ H1 fun y H2=>r x y H2 Q
def tUn(r:V->Hp->VK->Prop)(ta:TE):TE:=fun σ H Q=>ta σ H fun x H1=>r x H1 Q
def rI(C:Int->Int->Prop)(g:Int->Int->V):R2:=fun x y H Q=>∃i j,x=.int i/\y=.int j/\C i j/\Q (g i j) H
def rI0(g:Int->Int->V):R2:=fun x y H Q=>∃i j,x=.int i/\y=.int j/\Q (g i j) H
def rU(g:Int->V):V->Hp->VK->Prop:=fun x H Q=>∃i,x=.int i/\Q (g i) H
section
variable{X:Cx}{a b c:Expr}{ta tb tc:TE}{pos:Pos}
theorem aGI(ha:PE X a ta)(hb:PE X b tb){pins:List (Addr×Obj)}{s:Shared}{σ:St}{H:Hp}{R:V->V->Hp->Prop}(I:Inv X pins σ H s)
  (h:ta σ H fun x H1=>tb σ H1 fun y H2=>R x y H2) {Q:Value->Shared->Prop} {f:Value->Value->Sem Value}
  (hf:∀v u s2 x y H2,Inv X pins σ H2 s2->RelV x v->RelV y u->R x y H2->wpAny (model X.prog X.w) X.A (f v u) Q X.xe s2):
  wpAny (model X.prog X.w) X.A (eval a X.env) (fun v s₁=>wpAny (model X.prog X.w) X.A (eval b X.env) (fun u s₂=>wpAny (model X.prog X.w) X.A (f v u) Q X.xe s₂) X.xe s₁) X.xe s:=by
 refine thn (ha pins s σ H _ I h) fun v s1 ⟨x,H1,I1,r1,q1⟩=>?_
 refine thn (hb pins s1 σ H1 _ I1 q1) fun u s2 ⟨y,H2,I2,r2,q2⟩=>?_
 exact hf v u s2 x y H2 I2 r1 r2 q2
theorem aOT{op:Operator}{r:R2}(ho:OpR X (binaryOp op) r)(ha:PE X a ta)(hb:PE X b tb):PE X (.BinOp a op b pos) (tOp r ta tb):=by
 intro pins s σ H Q I h
 exact wpAny_BinOp (aGI ha hb I h fun v u s2 x y H2 I2 rx ry q=>ho pins s2 σ H2 x y v u Q I2 rx ry q)
theorem aM2{op:UnaryOp}{r:V->Hp->VK->Prop}(ho:UnR X (unaryOp op) r)(ha:PE X a ta):PE X (.UnaryOp op a pos) (tUn r ta):=by
 intro pins s σ H Q I h
 exact UnaryOp_ (thn (ha pins s σ H _ I h) fun v s1 ⟨x,H1,I1,r1,q1⟩=>ho pins s1 σ H1 x v Q I1 r1 q1)
theorem opI{f:Value->Value->Sem Value}{C:Int->Int->Prop}{g:Int->Int->Int}
  (rule:∀(i j:Int) (t u:Tok) (s:Shared) (Q:Value->Shared->Prop) (E:Value->Shared->Prop),C i j->Q (.int (g i j) s.toks) {s with toks:=s.toks+1}->wpAny (model X.prog X.w) X.A (f (.int i t) (.int j u)) Q E s):
  OpR X f (rI C fun i j=>.int (g i j)):=by
 intro pins s σ H x y v u Q I rx ry h
 obtain⟨i,j,rfl,rfl,hc,q⟩:=h
 obtain⟨t,rfl⟩:=rx
 obtain⟨t',rfl⟩:=ry
 exact rule i j t t' s _ _ hc ⟨.int (g i j),H,I.tok _,⟨_,rfl⟩,q⟩
theorem aAM{f:Value->Value->Sem Value}{g:Int->Int->Int}
  (rule:∀(i j:Int) (t u:Tok) (s:Shared) (Q:Value->Shared->Prop) (E:Value->Shared->Prop),Q (.int (g i j) s.toks) {s with toks:=s.toks+1}->wpAny (model X.prog X.w) X.A (f (.int i t) (.int j u)) Q E s):
  OpR X f (rI0 fun i j=>.int (g i j)):=by
 intro pins s σ H x y v u Q I rx ry h
 obtain⟨i,j,rfl,rfl,q⟩:=h
 obtain⟨t,rfl⟩:=rx
 obtain⟨t',rfl⟩:=ry
 exact rule i j t t' s _ _ ⟨.int (g i j),H,I.tok _,⟨_,rfl⟩,q⟩
theorem aAS{f:Value->Value->Sem Value}{g:Int->Int->Bool}
  (rule:∀(i j:Int) (t u:Tok) (s:Shared) (Q:Value->Shared->Prop) (E:Value->Shared->Prop),Q (.bool (g i j)) s->wpAny (model X.prog X.w) X.A (f (.int i t) (.int j u)) Q E s):
  OpR X f (rI0 fun i j=>.bl (g i j)):=by
 intro pins s σ H x y v u Q I rx ry h
 obtain⟨i,j,rfl,rfl,q⟩:=h
 obtain⟨t,rfl⟩:=rx
 obtain⟨t',rfl⟩:=ry
 exact rule i j t t' s _ _ ⟨.bl (g i j),H,I,rfl,q⟩
def ayD(i j:Int):Prop:=0<j/\j<1073741824
def aAH(i j:Int):Prop:=0<=j/\j<=1000000/\i.natAbs<2^64
def CMul(i j:Int):Prop:=(-(2^64)<i/\i<2^64)∨(-(2^64)<j/\j<2^64)
theorem CMul.ok{i j:Int}(h:CMul i j):IntMulOk i j:=by
 rcases h with ⟨h1,h2⟩ | ⟨h1,h2⟩
 ·exact .of_left (intBits_le_64 h1 h2)
 ·exact .of_right (intBits_le_64 h1 h2)
theorem arA(k:Nat):(0:Int)<=2^k:=by
 rw[two_pow_cast]
 exact Int.natCast_nonneg _
theorem aKS:OpR X (binaryOp .Add) (rI0 fun i j=>.int (i+j)):=aAM fun _ _ _ _ _ _ _ q=>add_int q
theorem aEY:OpR X (binaryOp .Sub) (rI0 fun i j=>.int (i-j)):=aAM fun _ _ _ _ _ _ _ q=>sub_int q
theorem aHV:OpR X (binaryOp .Mult) (rI CMul fun i j=>.int (i*j)):=opI fun _ _ _ _ _ _ _ hc q=>mul_int q hc.ok
theorem aAZ:OpR X (binaryOp .FloorDiv) (rI ayD fun i j=>.int (i / j)):=opI fun i j _ _ _ _ _ hc q=>by
 have h1:(0:Int)<j:=hc.1
 have h2:j<1073741824:=hc.2
 exact floordiv_int (by omega) (by rw[Int.fdiv_eq_ediv_of_nonneg i (by omega)];exact q) (.inl (PyProof.noPylong_small (by omega)))
theorem aJB:OpR X (binaryOp .Mod) (rI (fun _ j=>0<j) fun i j=>.int (i%j)):=opI fun i j _ _ _ _ _ hc q=>by
 have h1:(0:Int)<j:=hc
 exact mod_int' (by omega) (by rw[Int.fmod_eq_emod_of_nonneg i (by omega)];exact q)
theorem aGX:OpR X (binaryOp .Pow) (rI aAH fun i j=>.int (i^j.toNat)):=opI fun _ _ _ _ _ _ _ hc q=>pow_int_small hc.1 hc.2.1 hc.2.2 q
theorem aIV:OpR X (binaryOp .LShift) (rI aAH fun i j=>.int (i*2^j.toNat)):=opI fun _ _ _ _ _ _ _ hc q=>lshift_int_small hc.1 hc.2.1 hc.2.2 q
theorem aF9:OpR X (binaryOp .RShift) (rI (fun _ j=>0<=j) fun i j=>.int (i / 2^j.toNat)):=opI fun i j _ _ _ _ _ hc q=>
 rshift_int hc (by rw[Int.fdiv_eq_ediv_of_nonneg i (arA _)];exact q)
theorem aJV:OpR X (binaryOp .BitAnd) (rI0 fun i j=>.int (Builtin.bitAnd i j)):=aAM fun _ _ _ _ _ _ _ q=>and_int q
theorem aL5:OpR X (binaryOp .BitOr) (rI0 fun i j=>.int (Builtin.bitOr i j)):=aAM fun _ _ _ _ _ _ _ q=>or_int q
theorem unI{f:Value->Sem Value}{g:Int->Int}
  (rule:∀(i:Int) (t:Tok) (s:Shared) (Q:Value->Shared->Prop) (E:Value->Shared->Prop),Q (.int (g i) s.toks) {s with toks:=s.toks+1}->wpAny (model X.prog X.w) X.A (f (.int i t)) Q E s):
  UnR X f (rU fun i=>.int (g i)):=by
 intro pins s σ H x v Q I rx h
 obtain⟨i,rfl,q⟩:=h
 obtain⟨t,rfl⟩:=rx
 exact rule i t s _ _ ⟨.int (g i),H,I.tok _,⟨_,rfl⟩,q⟩
theorem aHO:UnR X (unaryOp .USub) (rU fun i=>.int (-i)):=unI fun _ _ _ _ _ q=>neg_int q
end
def aLL:V->V->Bool
 |.non,.non=>true | .non,.int _=>true | .int _,.non=>true | .non,.bl _=>true | .bl _,.non=>true | .non,.str _=>true | .str _,.non=>true
 |.int _,.int _=>true | .bl _,.bl _=>true | .str _,.str _=>true | .byt _,.byt _=>true
 |.int _,.str _=>true | .str _,.int _=>true | .bl _,.str _=>true | .str _,.bl _=>true
 |_,_=>false
def rEq:R2:=fun x y H Q=>aLL x y=true/\Q (.bl (decide (x=y))) H
def rNe:R2:=fun x y H Q=>aLL x y=true/\Q (.bl (!decide (x=y))) H
theorem ar4{i j:Int}:decide (V.int i=V.int j)=(i==j):=by
 rw[Bool.eq_iff_iff]
 simp
theorem auD{i j:Bool}:decide (V.bl i=V.bl j)=(i==j):=by
 rw[Bool.eq_iff_iff]
 simp
theorem asG{i j:Str}:decide (V.str i=V.str j)=(i==j):=by
 rw[Bool.eq_iff_iff]
 simp
theorem arW{i j:Array UInt8}:decide (V.byt i=V.byt j)=(i.toList==j.toList):=by
 rw[Bool.eq_iff_iff]
 cases i
 cases j
 simp
section
variable{X:Cx}{a b c:Expr}{ta tb tc:TE}{pos:Pos}
theorem aaN{pins:List (Addr×Obj)}{σ:St}{H:Hp}{s:Shared}{Q:VK}{k k':Bool}(I:Inv X pins σ H s)(q:Q (.bl k) H)(e:k=k'):EP X pins σ Q (.bool k') s:=by
 subst e
 exact⟨.bl k,H,I,rfl,q⟩
theorem aMC:OpR X (compareOp .Eq) rEq:=by
 intro pins s σ H x y v u Q I rx ry h
 obtain⟨hs,q⟩:=h
 cases x with
 |non=>
  cases rx
  cases y with
  |non=>cases ry;exact PySem.EqNone.eq_none_none (aaN I q (by simp))
  |bl j=>cases ry;exact PySem.EqNone.eq_none_bool (aaN I q (by simp))
  |int j=>obtain⟨t',rfl⟩:=ry;exact PySem.EqNone.eq_none_int (aaN I q (by simp))
  |str j=>obtain⟨t',rfl⟩:=ry;exact PySem.EqNone.eq_none_str (aaN I q (by simp))
  |_=>exact absurd (show false=true from hs) Bool.false_ne_true
 |bl i=>
  cases rx
  cases y with
  |non=>cases ry;exact PySem.EqNone.eq_bool_none (aaN I q (by simp))
  |bl j=>cases ry;exact eq_bool (aaN I q auD)
  |str j=>obtain⟨t',rfl⟩:=ry;exact PySem.EqMixed.eq_bool_str (aaN I q (by simp))
  |_=>exact absurd (show false=true from hs) Bool.false_ne_true
 |int i=>
  obtain⟨t,rfl⟩:=rx
  cases y with
  |non=>cases ry;exact PySem.EqNone.eq_int_none (aaN I q (by simp))
  |int j=>obtain⟨t',rfl⟩:=ry;exact eq_int (aaN I q ar4)
  |str j=>obtain⟨t',rfl⟩:=ry;exact PySem.EqMixed.eq_int_str (aaN I q (by simp))
  |_=>exact absurd (show false=true from hs) Bool.false_ne_true
 |str i=>
  obtain⟨t,rfl⟩:=rx
  cases y with
  |non=>cases ry;exact PySem.EqNone.eq_str_none (aaN I q (by simp))
  |bl j=>cases ry;exact PySem.EqMixed.eq_str_bool (aaN I q (by simp))
  |int j=>obtain⟨t',rfl⟩:=ry;exact PySem.EqMixed.eq_str_int (aaN I q (by simp))
  |str j=>obtain⟨t',rfl⟩:=ry;exact eq_str (aaN I q asG)
  |_=>exact absurd (show false=true from hs) Bool.false_ne_true
 |byt i=>
  obtain⟨t,rfl⟩:=rx
  cases y with
  |byt j=>obtain⟨t',rfl⟩:=ry;exact PySem.W.eq_bytes (aaN I q arW)
  |_=>exact absurd (show false=true from hs) Bool.false_ne_true
 |_=>cases y<;>exact absurd (show false=true from hs) Bool.false_ne_true
theorem aND:OpR X (compareOp .NotEq) rNe:=by
 intro pins s σ H x y v u Q I rx ry h
 obtain⟨hs,q⟩:=h
 cases x with
 |non=>
  cases rx
  cases y with
  |non=>cases ry;exact PySem.EqNone.ne_none_none (aaN I q (by simp))
  |bl j=>cases ry;exact PySem.EqNone.ne_none_bool (aaN I q (by simp))
  |int j=>obtain⟨t',rfl⟩:=ry;exact PySem.EqNone.ne_none_int (aaN I q (by simp))
  |str j=>obtain⟨t',rfl⟩:=ry;exact PySem.EqNone.ne_none_str (aaN I q (by simp))
  |_=>exact absurd (show false=true from hs) Bool.false_ne_true
 |bl i=>
  cases rx
  cases y with
  |non=>cases ry;exact PySem.EqNone.ne_bool_none (aaN I q (by simp))
  |bl j=>cases ry;exact ne_bool (aaN I q (congrArg not auD))
  |str j=>obtain⟨t',rfl⟩:=ry;exact PySem.EqMixed.ne_bool_str (aaN I q (by simp))
  |_=>exact absurd (show false=true from hs) Bool.false_ne_true
 |int i=>
  obtain⟨t,rfl⟩:=rx
  cases y with
  |non=>cases ry;exact PySem.EqNone.ne_int_none (aaN I q (by simp))
  |int j=>obtain⟨t',rfl⟩:=ry;exact ne_int (aaN I q (congrArg not ar4))
  |str j=>obtain⟨t',rfl⟩:=ry;exact PySem.EqMixed.ne_int_str (aaN I q (by simp))
  |_=>exact absurd (show false=true from hs) Bool.false_ne_true
 |str i=>
  obtain⟨t,rfl⟩:=rx
  cases y with
  |non=>cases ry;exact PySem.EqNone.ne_str_none (aaN I q (by simp))
  |bl j=>cases ry;exact PySem.EqMixed.ne_str_bool (aaN I q (by simp))
  |int j=>obtain⟨t',rfl⟩:=ry;exact PySem.EqMixed.ne_str_int (aaN I q (by simp))
  |str j=>obtain⟨t',rfl⟩:=ry;exact ne_str (aaN I q (congrArg not asG))
  |_=>exact absurd (show false=true from hs) Bool.false_ne_true
 |byt i=>
  obtain⟨t,rfl⟩:=rx
  cases y with
  |byt j=>obtain⟨t',rfl⟩:=ry;exact PySem.W.ne_bytes (aaN I q (congrArg not arW))
  |_=>exact absurd (show false=true from hs) Bool.false_ne_true
 |_=>cases y<;>exact absurd (show false=true from hs) Bool.false_ne_true
theorem aO9:OpR X (compareOp .Lt) (rI0 fun i j=>.bl (decide (i<j))):=aAS fun _ _ _ _ _ _ _ q=>lt_int q
theorem aN5:OpR X (compareOp .LtE) (rI0 fun i j=>.bl (decide (i<=j))):=aAS fun _ _ _ _ _ _ _ q=>le_int q
theorem aN3:OpR X (compareOp .Gt) (rI0 fun i j=>.bl (decide (j<i))):=aAS fun _ _ _ _ _ _ _ q=>gt_int q
theorem aMG:OpR X (compareOp .GtE) (rI0 fun i j=>.bl (decide (j<=i))):=aAS fun _ _ _ _ _ _ _ q=>ge_int q
theorem as9:OpR X (compareOp .In) (fun x y H Q=>∃i j,x=.str i/\y=.str j/\Q (.bl (!(Builtin.Str.occurrences j i 0 j.length 1).isEmpty)) H):=by
 intro pins s σ H x y v u Q I rx ry h
 obtain⟨i,j,rfl,rfl,q⟩:=h
 obtain⟨t,rfl⟩:=rx
 obtain⟨t',rfl⟩:=ry
 exact in_str (aaN I q rfl)
theorem aHI:OpR X (compareOp .Is) (fun x y H Q=>y=.non/\Q (.bl (decide (x=.non))) H):=by
 intro pins s σ H x y v u Q I rx ry h
 obtain⟨rfl,q⟩:=h
 cases ry
 refine is_none_gen (aaN I q ?_)
 cases x<;>first
  |(cases rx;rfl)
  |(obtain⟨t,rfl⟩:=rx;rfl)
theorem azL:OpR X (compareOp .IsNot) (fun x y H Q=>y=.non/\Q (.bl (!decide (x=.non))) H):=by
 intro pins s σ H x y v u Q I rx ry h
 obtain⟨rfl,q⟩:=h
 cases ry
 refine isnot_none_gen (aaN I q ?_)
 cases x<;>first
  |(cases rx;rfl)
  |(obtain⟨t,rfl⟩:=rx;rfl)
theorem axF(b:Expr){op:CmpOp}(h:op≠ .In:=by decide)(h2:op≠ .NotIn:=by decide):behindInMarks op b=false:=by
 have e1:(op==CmpOp.In)=false:=by cases op<;>first | rfl | exact absurd rfl h
 have e2:(op==CmpOp.NotIn)=false:=by cases op<;>first | rfl | exact absurd rfl h2
 cases b<;>simp[behindInMarks,e1,e2]
theorem aBI{op:CmpOp}{r:R2}(ho:OpR X (compareOp op) r)(ha:PE X a ta)(hb:PE X b tb)(hm:behindInMarks op b=false):PE X (.Compare a [op] [b] pos) (tOp r ta tb):=by
 intro pins s σ H Q I h
 exact wpAny_Compare1 (aGI ha hb I h fun v u s2 x y H2 I2 rx ry q=>ho pins s2 σ H2 x y v u Q I2 rx ry q) hm
def asR(t:TE):TT:=fun σ H Q=>t σ H fun x H'=>∃k,x=.bl k/\Q k H'
theorem aCC{op:CmpOp}{r:R2}(ho:OpR X (compareOp op) r)(ha:PE X a ta)(hb:PE X b tb)(hm:behindInMarks op b=false):PT X (.Compare a [op] [b] pos) (asR (tOp r ta tb)):=by
 intro pins s σ H Q I h
 refine wpAny_isTrue_Compare1 (thn (ha pins s σ H _ I h) fun v s1 ⟨x,H1,I1,r1,q1⟩=>thn (hb pins s1 σ H1 _ I1 q1) fun u s2 ⟨y,H2,I2,r2,q2⟩=>
  thn (ho pins s2 σ H2 x y v u _ I2 r1 r2 q2) fun c s3 ⟨z,H3,I3,r3,k,e,q3⟩=>?_) hm
 subst e
 cases r3
 exact wpAny_truthy_bool ⟨H3,I3,q3⟩
def amP(r r':R2)(ta tb tc:TE):TE:=fun σ H Q=>ta σ H fun x H1=>tb σ H1 fun y H2=>r x y H2 fun z H3=>∃k,z=.bl k/\
 (if k=true then tc σ H3 fun w' H4=>r' y w' H4 Q else Q (.bl false) H3)
theorem avT{op op':CmpOp}{r r':R2}(ho:OpR X (compareOp op) r)(ho':OpR X (compareOp op') r')(ha:PE X a ta)(hb:PE X b tb)(hc:PE X c tc)
  (hm:lastMarks [op,op'] [b,c]=false:=by with_unfolding_all rfl):PE X (.Compare a [op,op'] [b,c] pos) (amP r r' ta tb tc):=by
 intro pins s σ H Q I h
 refine Compare_chain (thn (ha pins s σ H _ I h) fun v s1 ⟨x,H1,I1,r1,q1⟩=>chain_link (thn (hb pins s1 σ H1 _ I1 q1) fun u s2 ⟨y,H2,I2,r2,q2⟩=>
  thn (ho pins s2 σ H2 x y v u _ I2 r1 r2 q2) fun d s3 ⟨z,H3,I3,r3,k,e,q3⟩=>?_)) hm
 subst e
 cases r3
 refine wpAny_truthy_bool ?_
 cases k with
 |false=>exact ite_ff ⟨.bl false,H3,I3,rfl,q3⟩
 |true=>exact ite_tt (chain_last (thn (hc pins s3 σ H3 _ I3 q3) fun w' s4 ⟨z',H4,I4,r4,q4⟩=>ho' pins s4 σ H4 y z' u w' Q I4 r2 r4 q4))
theorem auQ{op op':CmpOp}{r r':R2}(ho:OpR X (compareOp op) r)(ho':OpR X (compareOp op') r')(ha:PE X a ta)(hb:PE X b tb)(hc:PE X c tc)
  (hm:lastMarks [op,op'] [b,c]=false:=by with_unfolding_all rfl):PT X (.Compare a [op,op'] [b,c] pos) (asR (amP r r' ta tb tc)):=by
 intro pins s σ H Q I h
 refine isTrue_chain (thn (ha pins s σ H _ I h) fun v s1 ⟨x,H1,I1,r1,q1⟩=>test_link (thn (hb pins s1 σ H1 _ I1 q1) fun u s2 ⟨y,H2,I2,r2,q2⟩=>
  thn (ho pins s2 σ H2 x y v u _ I2 r1 r2 q2) fun d s3 ⟨z,H3,I3,r3,k,e,q3⟩=>?_)) hm
 subst e
 cases r3
 refine wpAny_truthy_bool ?_
 cases k with
 |false=>
  obtain⟨k',e',q'⟩:=q3
  cases e'
  exact ite_ff ⟨H3,I3,q'⟩
 |true=>
  refine ite_tt (test_last (thn (hc pins s3 σ H3 _ I3 q3) fun w' s4 ⟨z',H4,I4,r4,q4⟩=>thn (ho' pins s4 σ H4 y z' u w' _ I4 r2 r4 q4) fun d' s5 ⟨z2,H5,I5,r5,k2,e2,q5⟩=>?_))
  subst e2
  cases r5
  exact wpAny_truthy_bool ⟨H5,I5,q5⟩
theorem ajB:(sizeLine:Nat)<2^63:=by rw[sizeLine_eq];decide
theorem ap2:OpR X (binaryOp .Add) (fun x y H Q=>∃i j,x=.str i/\y=.str j/\i.length+j.length<=sizeLine/\Q (.str (i++j)) H):=by
 intro pins s σ H x y v u Q I rx ry h
 obtain⟨i,j,rfl,rfl,hz,q⟩:=h
 obtain⟨t,rfl⟩:=rx
 obtain⟨t',rfl⟩:=ry
 exact add_str (fun t' tk=>⟨.str (i++j),H,I.tok _,⟨_,rfl⟩,q⟩) hz
theorem abT{x:V}{us:List Value}(r:Vals [x] us):∃u,us=[u]/\RelV x u:=by
 cases r with
 |cons r1 r2=>cases r2;exact⟨_,rfl,r1⟩
theorem akD{x y:V}{us:List Value}(r:Vals [x,y] us):∃u w',us=[u,w']/\RelV x u/\RelV y w':=by
 cases r with
 |cons r1 r2=>
  cases r2 with
  |cons r3 r4=>cases r4;exact⟨_,_,rfl,r1,r3⟩
theorem au6:acM X (.builtin "abs") (fun xs H Q=>∃i,xs=[.int i]/\Q (.int (if i<0 then -i else i)) H):=by
 intro pins s σ H xs us Q I r h
 obtain⟨i,rfl,q⟩:=h
 obtain⟨u,rfl,t,rfl⟩:=abT r
 exact call_abs_int fun u tk=>⟨.int (if i<0 then -i else i),H,I.tok _,⟨_,rfl⟩,q⟩
theorem atD(hc:X.calm=true):acM X (.builtin "max") (fun xs H Q=>∃i j,xs=[.int i,.int j]/\Q (.int (if j>i then j else i)) H):=by
 intro pins s σ H xs us Q I r h
 obtain⟨i,j,rfl,q⟩:=h
 obtain⟨u,w',rfl,⟨t,rfl⟩,⟨t',rfl⟩⟩:=akD r
 refine max_two_ints (I.ok.hd hc) fun h' tk k=>⟨_,H,I.kept k,?_,q⟩
 by_cases hj:j>i
 ·rw[if_pos hj,if_pos hj];exact⟨_,rfl⟩
 ·rw[if_neg hj,if_neg hj];exact⟨_,rfl⟩
theorem atP(hc:X.calm=true):acM X (.builtin "min") (fun xs H Q=>∃i j,xs=[.int i,.int j]/\Q (.int (if j<i then j else i)) H):=by
 intro pins s σ H xs us Q I r h
 obtain⟨i,j,rfl,q⟩:=h
 obtain⟨u,w',rfl,⟨t,rfl⟩,⟨t',rfl⟩⟩:=akD r
 refine min_two_ints (I.ok.hd hc) fun h' tk k=>⟨_,H,I.kept k,?_,q⟩
 by_cases hj:j<i
 ·rw[if_pos hj,if_pos hj];exact⟨_,rfl⟩
 ·rw[if_neg hj,if_neg hj];exact⟨_,rfl⟩
theorem as5:acM X (.type "int") (fun xs H Q=>(∃i,xs=[.int i]/\Q (.int i) H)∨∃k,xs=[.bl k]/\Q (.int (if k then 1 else 0)) H):=by
 intro pins s σ H xs us Q I r h
 rcases h with ⟨i,rfl,q⟩ | ⟨k,rfl,q⟩
 ·obtain⟨u,rfl,t,rfl⟩:=abT r
  exact call_int_int ⟨.int i,H,I,⟨_,rfl⟩,q⟩
 ·obtain⟨u,rfl,r1⟩:=abT r
  cases r1
  exact call_int_bool ⟨.int (if k then 1 else 0),H,I.tok _,⟨_,rfl⟩,q⟩
theorem amM:acM X (.type "str") (fun xs H Q=>∃i,xs=[.int i]/\i.natAbs.log2<1920/\Q (.str (toString i)) H):=by
 intro pins s σ H xs us Q I r h
 obtain⟨i,rfl,hz,q⟩:=h
 obtain⟨u,rfl,t,rfl⟩:=abT r
 exact PySem.P.str_of_int hz ⟨.str _,H,I.tok _,⟨_,rfl⟩,q⟩
theorem ao2:acM X (.builtin "divmod") (fun xs H Q=>∃i j,xs=[.int i,.int j]/\ayD i j/\∀p,H p=none->Q (.ref p) (upd H p (.tup [.int (i / j),.int (i%j)]))):=by
 intro pins s σ H xs us Q I r h
 obtain⟨i,j,rfl,⟨h1,h2⟩,q⟩:=h
 obtain⟨u,w',rfl,⟨t,rfl⟩,⟨t',rfl⟩⟩:=akD r
 refine divmod_int (by omega) ?_ (.inl (PyProof.noPylong_small (by omega)))
 rw[Int.fdiv_eq_ediv_of_nonneg i (by omega),Int.fmod_eq_emod_of_nonneg i (by omega)]
 have hn:H s.heap.objs.size=none:=I.hok.fresh (Nat.le_refl _)
 refine⟨.ref s.heap.objs.size,_,?_,rfl,q _ hn⟩
 refine I.laid (fun b o e=>Heap.get?_push_of_some _ e) (Nat.le_refl _) ⟨by simp only[List.length_cons,List.length_nil];rw[sizeLine_eq];decide,[.int (i / j) s.toks,.int (i%j) (s.toks+1)],.cons ⟨_,rfl⟩ (.cons ⟨_,rfl⟩ .nil),?_⟩
 exact⟨_,Heap.get?_push_size s.heap rfl,rfl,0,rfl⟩
end
structure ObjM(h:Heap)(x dx C:Addr)(mA:Str->Option Value):Prop where
 obj:h.get? x=some (PySem.W.instObj C dx)
 ns:h.Ns1 dx mA
 ne:dx≠x
theorem at1{h:Heap}{dx:Addr}{mA:Str->Option Value}(n:h.Ns1 dx mA):∃od,h.get? dx=some od/\∀name,PySem.W.lookIn name od=some (mA name):=by
 obtain⟨o,es,ep,ho,hd,hk,_,hm⟩:=n
 refine⟨o,ho,fun name=>?_⟩
 have e:=hm name
 unfold nsFind findBy at e
 rw[←Array.find?_toList] at e
 unfold PySem.W.lookIn
 rw[hd]
 dsimp only
 split
 ·rename_i y q
  rw[q] at e
  exact congrArg some e
 ·rename_i q
  rw[q] at e
  have a:es.toList.any (·.refKey)=false:=by
   rw[List.any_eq_false]
   intro y hy
   obtain⟨z,t,hkey⟩:=hk y (Array.mem_toList_iff.mp hy)
   simp[DictEntry.refKey,hkey]
  have a':¬es.toList.any (·.refKey)=true:=by rw[a];exact Bool.false_ne_true
  rw[if_neg a']
  exact congrArg some e
theorem ObjM.look{h:Heap}{x dx C:Addr}{mA:Str->Option Value}(I:ObjM h x dx C mA):∃od,PySem.W.InstAt h x (PySem.W.instObj C dx) C (some od)/\∀name,PySem.W.lookIn name od=some (mA name):=
 let ⟨od,ho,hl⟩:=at1 I.ns
 ⟨od,⟨I.obj,rfl,rfl,ho⟩,hl⟩
section
variable{prog:Program}{w:World}{A:Around}{E:Value->Shared->Prop}{s:Shared}{K:PySem.W.Frag}{x dx C f:Addr}{mA:Str->Option Value}{name:Str}{v:Value}
theorem aCZ{expr:Bool}{Q:Value->Shared->Prop}(X:K.In s.heap)(I:ObjM s.heap x dx C mA)(hg:PySem.W.plainGet K C name=true)(hh:PySem.W.hasDictIn K C=true)
  (ha:PySem.W.findIn K (.ref C) name=some none) (hv:mA name=some v) (hv':PySem.W.handedIn v=true) (h:Q v {s with toks:=s.toks+1}):
  wpAny (model prog w) A (getAttr (.ref x) name expr) Q E s:=by
 obtain⟨od,J,hl⟩:=I.look
 exact PySem.W.get_value X J (PySem.W.plainGet_of hg).1 (PySem.W.findObj_own hh ha rfl (by rw[hl,hv])) hv' h
theorem auV{pl:Sem Bool}{Q:Value×List Value->Shared->Prop}(X:K.In s.heap)(I:ObjM s.heap x dx C mA)(hg:PySem.W.plainGet K C name=true)
  (hf:PySem.W.findIn K (.ref C) name=some (some (.ref f))) (ht:PySem.W.isFn K (.ref f)=true) (hv:mA name=none) (h:Q (.ref f,[.ref x]) s):
  wpAny (model prog w) A (getMethod (.ref x) name pl) Q E s:=by
 obtain⟨od,J,hl⟩:=I.look
 exact PySem.W.method_fn X J (PySem.W.plainGet_of hg).1 (PySem.W.plainGet_of hg).2 hf (beq_iff_eq.mp ht) (by show (PySem.W.lookIn name od).map (·.isSome)=some false;rw[hl,hv];rfl) h
theorem azN{ns:List Str}{Q:Unit->Shared->Prop}(X:K.In s.heap)(I:ObjM s.heap x dx C mA)
  (hs:PySem.W.findIn K (.ref C) "__setattr__"=some (some (.builtin "object.__setattr__"))) (hp:PySem.W.plainOver K C=true) (ht:PySem.W.takerIn K C name=some none) (hh:PySem.W.hasDictIn K C=true)
  (hw:PySem.Within mA ns) (hsz:ns.length<=sizeLine)
  (h:∀h',ObjM h' x dx C (fun y=>if y=name then some v else mA y)->Heap.SameBut dx s.heap h'->Q () {s with heap:=h',toks:=s.toks+2}):
  wpAny (model prog w) A (setAttr (.ref x) name v) Q E s:=by
 obtain⟨od,J,hl⟩:=I.look
 refine PySem.W.set_plain X J hs (PySem.W.osa_open (s:={s with toks:=s.toks+1}) (r:=none) X J hp ht fun b=>?_)
 obtain⟨cd,hc,hd'⟩:=PySem.W.any_some hh
 have hx:s.heap.get? x=some ⟨.ref C,some dx,.plain,#[]⟩:=I.obj
 refine wpAny_bind (wpAny_pure (wpAny_bind (wpAny_bind (wpAny_loadPart hx (wpAny_bind (PySem.W.Looks.here (s:={s with toks:=s.toks+1}) (PySem.W.looks_clsIn X hc) ?_))))))
 rw[hd']
 refine wpAny_pure (a:=some dx) (wpAny_bind (wpAny_pure (wpAny_bind ?_)))
 refine wpAny_nsSet1 (s:={s with toks:=s.toks+1}) I.ns fun h' hn2 hs2=>?_
 obtain⟨oD,esD,epD,hoD,hdD,hcD⟩:=hn2.count (PySem.Within.cons name v hw)
 refine wpAny_bind (wpAny_lookBehind hoD (by rw[hdD];exact pastItsLine_dict (Nat.le_trans hcD (by rw[List.length_cons];omega))) ?_)
 exact wpAny_pure (h _ ⟨(hs2.2 _ (Ne.symm I.ne)).trans I.obj,hn2,I.ne⟩ hs2)
theorem axI{R:Result->Shared->Prop}{vs:List Value}{kw:List (Str×Value)}(X:K.In s.heap)(hm:PySem.W.makesIn K C=true)
  (hi:PySem.W.findIn K (.ref C) "__init__"=some (some (.ref f))) (hf:PySem.W.typeIn K (.ref f)=some (.type "function"))
  (h:codeAny (model prog w) (A.under (.builtin "type.__call__" ⟨.ref C::vs,kw⟩)) (.call (.ref f) ⟨.ref (s.heap.objs.size+1)::vs,kw⟩) (PySem.W.InitBack (s.heap.objs.size+1) R)
   {s with heap:=(s.heap.push PySem.W.emptyDict).push (PySem.W.instObj C s.heap.objs.size)}):
  codeAny (model prog w) A (.call (.ref C) ⟨vs,kw⟩) R s:=by
 obtain⟨hh,g,d,t,os⟩:=s
 exact PySem.W.make_core (PySem.W.makes_of X hm) (PySem.W.looks_findIn X hi) (fun self=>PySem.W.bind_fn X self hf) (.inl rfl) h
theorem atY{R:Result->Shared->Prop}(X:K.In s.heap)(hm:PySem.W.makesIn K C=true)
  (hi:PySem.W.findIn K (.ref C) "__init__"=some (some (.builtin "object.__init__")))
  (hb:∀self,PySem.W.Looks (model prog w) s.heap (bindSpecial (.builtin "object.__init__") self) (.builtin "object.__init__",[self]))
  (h:codeAny (model prog w) (A.under (.builtin "type.__call__" ⟨[.ref C],[]⟩)) (.call (.builtin "object.__init__") ⟨[.ref (s.heap.objs.size+1)],[]⟩) (PySem.W.InitBack (s.heap.objs.size+1) R)
   {s with heap:=(s.heap.push PySem.W.emptyDict).push (PySem.W.instObj C s.heap.objs.size)}):
  codeAny (model prog w) A (.call (.ref C) ⟨[],[]⟩) R s:=by
 obtain⟨hh,g,d,t,os⟩:=s
 exact PySem.W.make_core (PySem.W.makes_of X hm) (PySem.W.looks_findIn X hi) hb (.inr ⟨rfl,rfl⟩) h
end
def aaO(f:Str)(v:V):List (Str×V)->List (Str×V)
 |[]=>[(f,v)]
 |(g,x)::r=>if g=f then (g,v)::r else (g,x)::aaO f v r
theorem aaD(f g:Str)(v:V):∀fs:List (Str×V),(aaO f v fs).lookup g=if g=f then some v else fs.lookup g
 |[]=>by
  show List.lookup g [(f,v)]=_
  by_cases h:g=f
  ·have hb:(g==f)=true:=beq_iff_eq.mpr h
   simp only[List.lookup,hb,if_pos h]
  ·have hb:(g==f)=false:=beq_eq_false_iff_ne.mpr h
   simp only[List.lookup,hb,if_neg h]
 |(k,x)::r=>by
  have ih:=aaD f g v r
  rw[show aaO f v ((k,x)::r)=(if k=f then (k,v)::r else (k,x)::aaO f v r) from rfl]
  by_cases hk:k=f
  ·rw[if_pos hk]
   by_cases h:g=k
   ·have hb:(g==k)=true:=beq_iff_eq.mpr h
    simp only[List.lookup,hb,if_pos (h.trans hk)]
   ·have hb:(g==k)=false:=beq_eq_false_iff_ne.mpr h
    simp only[List.lookup,hb,if_neg (fun e:g=f=>h (e.trans hk.symm))]
  ·rw[if_neg hk]
   by_cases h:g=k
   ·have hb:(g==k)=true:=beq_iff_eq.mpr h
    simp only[List.lookup,hb,if_neg (fun e:g=f=>hk (h.symm.trans e))]
   ·have hb:(g==k)=false:=beq_eq_false_iff_ne.mpr h
    simp only[List.lookup,hb]
    exact ih
theorem ag3(f:Str)(v:V):∀fs:List (Str×V),f∈(aaO f v fs).map (·.1)/\∀g,g∈fs.map (·.1)->g∈(aaO f v fs).map (·.1)
 |[]=>⟨by simp[aaO],fun g h=>by simp at h⟩
 |(k,x)::r=>by
  obtain⟨i1,i2⟩:=ag3 f v r
  rw[show aaO f v ((k,x)::r)=(if k=f then (k,v)::r else (k,x)::aaO f v r) from rfl]
  by_cases hk:k=f
  ·rw[if_pos hk]
   subst hk
   exact⟨by simp,fun g h=>by simpa using h⟩
  ·rw[if_neg hk]
   refine⟨?_,fun g h=>?_⟩
   ·rw[List.map_cons]
    exact List.mem_cons_of_mem _ i1
   ·rw[List.map_cons] at h ⊢
    rcases List.mem_cons.mp h with e | e
    ·exact List.mem_cons.mpr (.inl e)
    ·exact List.mem_cons_of_mem _ (i2 g e)
theorem ahC(f:Str)(v:V):∀fs:List (Str×V),(aaO f v fs).length<=fs.length+1
 |[]=>by simp[aaO]
 |(k,x)::r=>by
  have ih:=ahC f v r
  rw[show aaO f v ((k,x)::r)=(if k=f then (k,v)::r else (k,x)::aaO f v r) from rfl]
  by_cases hk:k=f
  ·rw[if_pos hk,List.length_cons,List.length_cons];omega
  ·rw[if_neg hk,List.length_cons,List.length_cons];omega
theorem RelO.some_of{v:V}{o:Option Value}(r:RelO (some v) o):∃u,o=some u/\RelV v u:=by
 cases o with
 |none=>exact (show False from r).elim
 |some u=>exact⟨u,rfl,r⟩
theorem RelO.none_of{o:Option Value}(r:RelO none o):o=none:=by
 cases o with
 |none=>rfl
 |some u=>exact (show False from r).elim
theorem as8{v:V}{u:Value}(r:RelV v u):PySem.W.handedIn u=true:=by
 cases v with
 |non=>cases (show u=Value.none from r);rfl
 |bl b=>cases (show u=Value.bool b from r);rfl
 |int i=>obtain⟨t,e⟩:=(show ∃t,u=Value.int i t from r);cases e;rfl
 |str x=>obtain⟨t,e⟩:=(show ∃t,u=Value.str x t from r);cases e;rfl
 |byt b=>obtain⟨t,e⟩:=(show ∃t,u=Value.bytes b t from r);cases e;rfl
 |flt b=>obtain⟨t,e⟩:=(show ∃t,u=Value.float b t from r);cases e;rfl
 |ref a=>cases (show u=Value.ref a from r);rfl
 |ty n=>cases (show u=Value.type n from r);rfl
section
variable{P:Program}{w:World}{H H':Hp}{h h':Heap}{a C dx:Addr}{fs fs':List (Str×V)}
theorem am8(hok:HOk P w H h)(e:H a=some (.ins C dx fs)):∃mA,ObjM h a dx C mA/\(∀f,RelO (fs.lookup f) (mA f))/\PySem.Within mA (fs.map (·.1))/\fs.length<=1000/\H dx=some (.own a):=by
 obtain⟨d,z,ne,ob,mA,n,r,q⟩:=(show ObjOk P w H h a (.ins C dx fs) from hok a _ e)
 exact⟨mA,⟨ob,n,ne⟩,r,q,z,d⟩
end
structure Cls(K:PySem.W.Frag)(C:Addr):Prop where
 pg:PySem.W.plainGet K C Str.empty=true
 hd:PySem.W.hasDictIn K C=true
 po:PySem.W.plainOver K C=true
 sa:PySem.W.findIn K (.ref C) "__setattr__"=some (some (.builtin "object.__setattr__"))
theorem Cls.get{K:PySem.W.Frag}{C:Addr}(c:Cls K C)(f:Str):PySem.W.plainGet K C f=true:=c.pg
def NoAttr(K:PySem.W.Frag)(C:Addr)(f:Str):Prop:=PySem.W.findIn K (.ref C) f=some none
theorem NoAttr.taker{K:PySem.W.Frag}{C:Addr}{f:Str}(n:NoAttr K C f):PySem.W.takerIn K C f=some none:=by
 unfold PySem.W.takerIn
 rw[show PySem.W.findIn K (.ref C) f=some none from n]
 rfl
structure Meth(K:PySem.W.Frag)(C:Addr)(m:Str)(f:Addr):Prop where
 at_:PySem.W.findIn K (.ref C) m=some (some (.ref f))
 fn:PySem.W.isFn K (.ref f)=true
 kp:PySem.W.keepIn K (.ref f)=true
section
variable{X:Cx}{pins:List (Addr×Obj)}{σ:St}{H:Hp}{s:Shared}{a C dx:Addr}{fs:List (Str×V)}{f:Str}{v:V}{A:Around}{E:Value->Shared->Prop}
theorem aqS{b:Bool}{Q:Value->Shared->Prop}(I:Inv X pins σ H s)(e:H a=some (.ins C dx fs))(c:Cls X.K C)(n:NoAttr X.K C f)(l:fs.lookup f=some v)
  (h:∀u s',Inv X pins σ H s'->RelV v u->Q u s'):wpAny (model X.prog X.w) A (getAttr (.ref a) f b) Q E s:=by
 obtain⟨mA,O,r,_,_,_⟩:=am8 I.hok e
 obtain⟨u,hu,ru⟩:=RelO.some_of (v:=v) (o:=mA f) (by rw[←l];exact r f)
 exact aCZ I.kIn O (c.get f) c.hd n hu (as8 ru) (h u _ (I.tok _) ru)
theorem aq5{m:Str}{g:Addr}{pl:Sem Bool}{Q:Value×List Value->Shared->Prop}(I:Inv X pins σ H s)(e:H a=some (.ins C dx fs))(c:Cls X.K C)(k:Meth X.K C m g)(l:fs.lookup m=none)
  (h:Q (.ref g,[.ref a]) s):wpAny (model X.prog X.w) A (getMethod (.ref a) m pl) Q E s:=by
 obtain⟨mA,O,r,_,_,_⟩:=am8 I.hok e
 have hn:mA m=none:=RelO.none_of (by rw[←l];exact r m)
 exact auV I.kIn O (c.get m) k.at_ k.fn hn h
theorem aqF{y:V}{u:Value}{Q:Unit->Shared->Prop}(I:Inv X pins σ H s)(e:H a=some (.ins C dx fs))(c:Cls X.K C)(n:NoAttr X.K C f)(hl:fs.length<1000)(ry:RelV y u)
  (h:∀s',Inv X pins σ (upd H a (.ins C dx (aaO f y fs))) s'->Q () s'):wpAny (model X.prog X.w) A (setAttr (.ref a) f u) Q E s:=by
 obtain⟨mA,O,r,wi,_,ho⟩:=am8 I.hok e
 have hz:(fs.map (·.1)).length<=sizeLine:=by rw[List.length_map,sizeLine_eq];omega
 refine azN I.kIn O c.sa c.po n.taker c.hd wi hz fun h' O' sb=>h _ ?_
 have hd:∃o,h'.get? dx=some o:=let ⟨o,_,_,e',_⟩:=O'.ns;⟨o,e'⟩
 refine I.write (x:=a) (e:=dx) (by rw[e];exact True.intro) (.inr ho) (fun b q hb z=>(sb.2 b hb).trans z) hd ?_
 refine⟨by rw[aaG O.ne];exact ho,?_,O.ne,O'.obj,_,O'.ns,fun g=>?_,fun g hg=>?_⟩
 ·have:=ahC f y fs;omega
 ·show RelO ((aaO f y fs).lookup g) (if g=f then some u else mA g)
  rw[aaD]
  by_cases q:g=f
  ·rw[if_pos q,if_pos q];exact ry
  ·rw[if_neg q,if_neg q];exact r g
 ·by_cases q:g=f
  ·rw[q];exact (ag3 f y fs).1
  ·refine (ag3 f y fs).2 g (wi g fun z=>hg ?_)
   show (if g=f then some u else mA g)=none
   rw[if_neg q];exact z
theorem Inv.made(I:Inv X pins σ H s):Inv X pins σ (upd (upd H s.heap.objs.size (.own (s.heap.objs.size+1))) (s.heap.objs.size+1) (.ins C s.heap.objs.size []))
  {s with heap:=(s.heap.push PySem.W.emptyDict).push (PySem.W.instObj C s.heap.objs.size)}:=by
 have e1:(s.heap.push PySem.W.emptyDict).get? s.heap.objs.size=some PySem.W.emptyDict:=Heap.get?_push_size s.heap rfl
 have e2:((s.heap.push PySem.W.emptyDict).push (PySem.W.instObj C s.heap.objs.size)).get? (s.heap.objs.size+1)=some (PySem.W.instObj C s.heap.objs.size):=by
  have:=Heap.get?_push_size (s.heap.push PySem.W.emptyDict) (o:=PySem.W.instObj C s.heap.objs.size) rfl
  rwa [Heap.size_push] at this
 have e3:(s.heap.push PySem.W.emptyDict).Ns s.heap.objs.size (fun _=>none):=⟨PySem.W.emptyDict,#[],_,e1,rfl,(fun e he=>absurd he (by simp)),fun _=>rfl⟩
 have I1:=I.laid (a:=s.heap.objs.size) (o:=.own (s.heap.objs.size+1)) (h':=s.heap.push PySem.W.emptyDict) (t':=s.toks) (fun b u q=>Heap.get?_push_of_some _ q) (Nat.le_refl _) ⟨_,e1⟩
 refine I1.laid (a:=s.heap.objs.size+1) (o:=.ins C s.heap.objs.size []) (t':=s.toks) (fun b u q=>Heap.get?_push_of_some _ q) (Nat.le_of_eq (Heap.size_push _ _)) ?_
 have ne:s.heap.objs.size≠s.heap.objs.size+1:=Nat.ne_of_lt (Nat.lt_succ_self _)
 refine⟨by rw[aaG ne,aaA],Nat.zero_le _,ne,e2,fun _=>none,(Heap.Ns1.of_empty e3).at fun o q=>Heap.get?_push_of_some _ q,fun _=>True.intro,fun y hy=>absurd rfl hy⟩
theorem aCG{prog:Program}{w:World}{env:Env}{e:Expr}{f:Str}{pos:Pos}{s:Shared}{Q:Value->Shared->Prop}(hb:attributeBase e f env (eval e env)=eval e env)
  (h:wpAny (model prog w) A (eval e env) (fun o s₁=>wpAny (model prog w) A (getAttr o f true) Q E s₁) E s):wpAny (model prog w) A (eval (.Attribute e f pos) env) Q E s:=
 Attribute_any_ h (by rw[arm_eval_Attribute,hb])
end
def aN4(K:PySem.W.Frag)(ta:TE)(f:Str):TE:=fun σ H Q=>ta σ H fun x H1=>∃a C dx fs v,x=.ref a/\H1 a=some (.ins C dx fs)/\Cls K C/\NoAttr K C f/\fs.lookup f=some v/\Q v H1
def aNU(K:PySem.W.Frag)(ta tv:TE)(f:Str):TS:=fun D σ H=>tv σ H fun y H1=>ta σ H1 fun x H2=>∃a C dx fs,x=.ref a/\H2 a=some (.ins C dx fs)/\Cls K C/\NoAttr K C f/\fs.length<1000/\
 D.nx σ (upd H2 a (.ins C dx (aaO f y fs)))
section
variable{X:Cx}{o e value:Expr}{f:Str}{pos pos' tpos:Pos}{ta tv:TE}
theorem aFG(he:PE X e ta)(hb:attributeBase e f X.env (eval e X.env)=eval e X.env):PE X (.Attribute e f pos) (aN4 X.K ta f):=by
 intro pins s σ H Q I h
 refine aCG hb (thn (he pins s σ H _ I h) fun u s1 ⟨x,H1,I1,rx,a,C,dx,fs,v,ex,ea,c,n,l,q⟩=>?_)
 subst ex
 obtain rfl:u=Value.ref a:=rx
 exact aqS I1 ea c n l fun u' s2 I2 ru=>⟨v,H1,I2,ru,q⟩
theorem aJU(ha:PE X o ta)(hv:PE X value tv)(hs:swapsWith value (some (.Attribute o f pos')) pos.line X.env=pure false):PS X (.Assign [.Attribute o f pos'] value pos) (aNU X.K ta tv f):=by
 intro pins s σ H D I h
 refine plainObj_wpAny_Assign_Attribute (thn (hv pins s σ H _ I h) fun u s1 ⟨y,H1,I1,ry,q⟩=>thn (ha pins s1 σ H1 _ I1 q) fun ov s2 ⟨x,H2,I2,rx,a,C,dx,fs,ex,ea,c,n,l,q2⟩=>?_) hs
 subst ex
 obtain rfl:ov=Value.ref a:=rx
 exact aqF I2 ea c n l ry fun s3 I3=>⟨σ,_,I3,q2⟩
end
section
variable{X:Cx}{pins:List (Addr×Obj)}{σ:St}{H:Hp}{s:Shared}{A:Around}{E:Value->Shared->Prop}{Q:Value->Shared->Prop}{c:Value}{b:Bool}
end
structure Room(k:Nat)(A:Around):Prop where
 hd:A.handled=none
 dp:A.depth+3*k+5<recursionLimit
 un:A.units+16*k+200<cLine
theorem Room.mono{j k:Nat}{A:Around}(r:Room k A)(h:j<=k):Room j A:=⟨r.hd,by have:=r.dp;omega,by have:=r.un;omega⟩
theorem Room.deeper{k:Nat}{A:Around}(r:Room (k+1) A)(env:Env):Room k (A.deeper env):=
 ⟨r.hd,by have:=r.dp;show A.depth+1+3*k+5<_;omega,by have:=r.un;show A.units+3+16*k+200<_;omega⟩
theorem arD{A:Around}{C:Addr}{us:List Value}{kw:List (Str×Value)}:(A.under (.builtin "type.__call__" ⟨.ref C::us,kw⟩)).depth=A.depth+1:=by
 first | rfl | simp[Around.under,Code.weight,Code.isCreation,Code.isGuard,Code.isCaller,Code.frames,Code.isFrame,guardIds]
theorem aq6{A:Around}{C:Addr}{us:List Value}{kw:List (Str×Value)}:(A.under (.builtin "type.__call__" ⟨.ref C::us,kw⟩)).units=A.units+1:=by
 first | rfl | simp[Around.under,Code.cUnits,Code.frames,Code.isFrame]
theorem Room.make{k:Nat}{A:Around}(r:Room (k+1) A)(C:Addr)(us:List Value)(kw:List (Str×Value)):Room k (A.under (.builtin "type.__call__" ⟨.ref C::us,kw⟩)):=
 ⟨r.hd,by have:=r.dp;rw[arD];omega,by have:=r.un;rw[aq6];omega⟩
theorem Room.depth{k:Nat}{A:Around}(r:Room k A):A.depth<recursionLimit:=by have:=r.dp;omega
def ak0:TA:=fun _ H Q=>Q [] H
def ahJ(ta:TE)(tr:TA):TA:=fun σ H Q=>ta σ H fun x H1=>tr σ H1 fun xs H2=>Q (x::xs) H2
section
variable{X:Cx}{e:Expr}{es:List Expr}{te:TE}{t:TA}{pos:Pos}
theorem ad0:PA X [] ak0:=fun _ _ _ _ H Q I h=>Calls.spliced_nil ⟨[],H,I,.nil,h⟩
theorem acN(ha:PE X e te)(hr:PA X es t)(hs:starEach (e::es) X.env=(false,eval e X.env)::starEach es X.env:=by rfl):PA X (e::es) (ahJ te t):=by
 intro pos pins s σ H Q I h
 rw[hs]
 show wpAny _ _ (spliced ((false,eval e X.env)::backTo pos (starEach es X.env))) _ _ s
 refine Calls.spliced_cons (thn (ha pins s σ H _ I h) fun u s1 ⟨x,H1,I1,r1,q1⟩=>?_)
 exact thn (hr pos pins s1 σ H1 _ I1 q1) fun us s2 ⟨xs,H2,I2,r2,q2⟩=>⟨x::xs,H2,I2,.cons r1 r2,q2⟩
def aMP(t:TA):TE:=fun σ H Q=>t σ H fun xs H1=>xs.length<=sizeLine/\∀p,H1 p=none->Q (.ref p) (upd H1 p (.tup xs))
def aOZ(t:TA):TE:=fun σ H Q=>t σ H fun xs H1=>xs.length<=sizeLine/\∀p,H1 p=none->Q (.ref p) (upd H1 p (.lst xs))
theorem aGL{x1}(h:PA X es t):PE X (.Tuple es x1 pos) (aMP t):=by
 intro pins s σ H Q I hq
 refine wpAny_Tuple_spliced (thn (h pos pins s σ H _ I hq) fun us s1 ⟨xs,H1,I1,r,z,q⟩=>⟨by rw[←r.length];exact z,?_⟩)
 have hf:H1 s1.heap.objs.size=none:=I1.hok.fresh (Nat.le_refl _)
 refine⟨.ref s1.heap.objs.size,upd H1 s1.heap.objs.size (.tup xs),I1.laid (t':=s1.toks) (fun b u e=>Heap.get?_push_of_some _ e) (Nat.le_refl _) ?_,rfl,q _ hf⟩
 exact⟨z,us,r,⟨_,Heap.get?_push_size _ rfl,rfl,_,rfl⟩⟩
theorem aJZ(h:PA X es t):PE X (.List es pos) (aOZ t):=by
 intro pins s σ H Q I hq
 refine wpAny_List_spliced (thn (h pos pins s σ H _ I hq) fun us s1 ⟨xs,H1,I1,r,z,q⟩=>⟨by rw[←r.length];exact z,?_⟩)
 have hf:H1 s1.heap.objs.size=none:=I1.hok.fresh (Nat.le_refl _)
 refine⟨.ref s1.heap.objs.size,upd H1 s1.heap.objs.size (.lst xs),I1.laid (t':=s1.toks) (fun b u e=>Heap.get?_push_of_some _ e) (Nat.le_refl _) ?_,rfl,q _ hf⟩
 exact⟨z,us,0,r,Heap.get?_push_size _ rfl⟩
end
abbrev Sp:=List V->Hp->VK->XK->Prop
abbrev CXT:=List Env->Hp->Shared->XK->Value->Shared->Prop
structure Env0(P:Program)(w:World)(K:PySem.W.Frag)(mg:Str->Option Value)(base:Heap)(A:Around)(outer:List Env)(s:Shared)(H:Hp):Prop where
 frames:A.frames=some outer
 mod:Mod K mg base
 bs:∀b o,base.get? b=some o->s.heap.get? b=some o/\H b=none
 bsz:base.objs.size<=s.heap.objs.size
 funs:s.heap.FunFrames base outer
 frf:∀b∈frs outer,H b=none
 hok:HOk P w H s.heap
 bare:AllBare s.gens
def CE(outer:List Env)(P:Program)(w:World)(H:Hp)(s:Shared)(Q:VK)(u:Value)(s':Shared):Prop:=
 ∃v H',s'.os=s.os/\AllBare s'.gens/\Un (frs outer) [] H H' s.heap s'.heap/\HOk P w H' s'.heap/\RelV v u/\Q v H'
def CR(CX:CXT)(outer:List Env)(P:Program)(w:World)(H:Hp)(s:Shared)(Q:VK)(E:XK)(r:Result)(s':Shared):Prop:=
 match r with
 |.ok (.ret u)=>CE outer P w H s Q u s'
 |.ok _=>False
 |.error e=>CX outer H s E e s'
structure FnOk(P:Program)(w:World)(K:PySem.W.Frag)(mg:Str->Option Value)(base:Heap)(CX:CXT)(k:Nat)(f:Addr)(fd:FuncData)(ps:List Str)(sp:Sp):Prop where
 len:∀vs H Q E,sp vs H Q E->vs.length=ps.length
 run:∀(A:Around) (outer:List Env) (s:Shared) (H:Hp) (args:Args) (us:List Value) (vs:List V) (Q:VK) (E:XK),Room k A->Env0 P w K mg base A outer s H->BindsTo s fd args (ps.zip us)->Vals vs us->sp vs H Q E->
  codeAny (model P w) A (.call (.ref f) args) (CR CX outer P w H s Q E) s
theorem Env0.make{P:Program}{w:World}{K:PySem.W.Frag}{mg:Str->Option Value}{base:Heap}{A:Around}{outer:List Env}{s:Shared}{H:Hp}(e:Env0 P w K mg base A outer s H)(C:Addr)(us:List Value)(kw:List (Str×Value)):
  Env0 P w K mg base (A.under (.builtin "type.__call__" ⟨.ref C::us,kw⟩)) outer s H:=⟨by first | exact e.frames | (simpa [Around.under,Code.envs,Code.isFrame,pushEnvs] using e.frames),e.mod,e.bs,e.bsz,e.funs,e.frf,e.hok,e.bare⟩
section
variable{X:Cx}{pins:List (Addr×Obj)}{σ:St}{H:Hp}{s s':Shared}
theorem Inv.env0(I:Inv X pins σ H s):Env0 X.prog X.w X.K X.mg X.base X.A X.stack s H:=
 ⟨I.ok.frames,I.ok.mod,I.bs,Nat.le_trans I.ok.bsz I.sz,I.stack,I.stkFree,I.hok,I.bare⟩
theorem Inv.after{Q:VK}{u:Value}(I:Inv X pins σ H s)(h:CE X.stack X.prog X.w H s Q u s'):EP X pins σ Q u s':=by
 obtain⟨v,H',os,bare,un,hok,r,q⟩:=h
 obtain⟨hh,g,d,t,os'⟩:=s'
 obtain rfl:os'=s.os:=os
 exact⟨v,H',I.call (h':=hh) (g':=g) (d':=d) (t':=t) (ch:=[]) un hok bare (fun b z=>absurd z (by simp)),r,q⟩
end
def ar6(sp:Sp)(dvs:List V)(E:XK)(t:TA):TE:=fun σ H Q=>t σ H fun vs H1=>sp (vs++dvs) H1 Q E
def aD8(C:Addr)(m:Str)(sp:Sp)(dvs:List V)(E:XK)(ta:TE)(t:TA):TE:=fun σ H Q=>ta σ H fun x H1=>∃a dx fs,x=.ref a/\H1 a=some (.ins C dx fs)/\fs.lookup m=none/\
 t σ H1 fun vs H2=>sp (x::(vs++dvs)) H2 Q E
def ar1(C:Addr)(sp:Sp)(dvs:List V)(E:XK)(t:TA):TE:=fun σ H Q=>t σ H fun vs H1=>∀x dx,H1 x=none->H1 dx=none->dx≠x->
 sp (.ref x::(vs++dvs)) (upd (upd H1 dx (.own x)) x (.ins C dx [])) (fun v H2=>v=.non/\Q (.ref x) H2) E
def Binds(K:PySem.W.Frag)(fd:FuncData)(ps:List Str)(ds:List Value):Prop:=
 ∀(s:Shared) (us:List Value),K.In s.heap->(us++ds).length=ps.length->BindsTo s fd ⟨us,[]⟩ (ps.zip (us++ds))
theorem Binds.all{K:PySem.W.Frag}{fd:FuncData}{ps:List Str}(h:∀us:List Value,us.length=ps.length->bindArgs fd ⟨us,[]⟩=pure (ps.zip us)):Binds K fd ps []:=fun s us _ hl=>by
 rw[List.append_nil] at hl ⊢
 exact .of_eq (h us hl)
def afM(CX:CXT)(X:Cx)(E:XK):Prop:=∀(pins:List (Addr×Obj)) (σ:St) (H:Hp) (s:Shared) (e:Value) (s':Shared),Inv X pins σ H s->CX X.stack H s E e s'->X.xe e s'
section
variable{X:Cx}{CX:CXT}{k:Nat}{f C:Addr}{fd:FuncData}{ps:List Str}{sp:Sp}{dvs:List V}{ds:List Value}{E:XK}{x m:Str}{p pos apos:Pos}{e o:Expr}{es:List Expr}{ta:TE}{t:TA}
theorem aqX{pins:List (Addr×Obj)}{σ:St}{H:Hp}{s:Shared}{Q:VK}{us:List Value}{vs:List V}(F:FnOk X.prog X.w X.K X.mg X.base CX k f fd ps sp)(hr:Room k X.A)(hb:Binds X.K fd ps ds)(hd:Vals dvs ds)(hx:afM CX X E)
  (I:Inv X pins σ H s) (r:Vals vs us) (h:sp (vs++dvs) H Q E):wpAny (model X.prog X.w) X.A (call (.ref f) us) (EP X pins σ Q) X.xe s:=by
 have r2:Vals (vs++dvs) (us++ds):=r.append hd
 have hl:(us++ds).length=ps.length:=by rw[←r2.length];exact F.len _ _ _ _ h
 refine wpAny_call (codeAny_mono (F.run X.A X.stack s H ⟨us,[]⟩ (us++ds) (vs++dvs) Q E hr I.env0 (hb s us I.kIn hl) r2 h) fun r s' hq=>?_)
 cases r with
 |error e=>exact hx pins σ H s e s' I hq
 |ok fl=>
  cases fl with
  |ret u=>exact I.after hq
  |next=>exact False.elim hq
  |brk=>exact False.elim hq
  |cont=>exact False.elim hq
theorem aAF(F:FnOk X.prog X.w X.K X.mg X.base CX k f fd ps sp)(hr:Room k X.A)(hg:Gl X x)(hm:X.mg x=some (.ref f))(hk:PySem.W.keepIn X.K (.ref f)=true)(hb:Binds X.K fd ps ds)(hd:Vals dvs ds)(hx:afM CX X E)
  (ha:PA X (e::es) t) (hdb:(x==("__debug__":Str))=false:=by decide) (he:starEach (e::es) X.env=(false,eval e X.env)::starEach es X.env:=by rfl) (hpl:(backTo pos (starEach es X.env)).any (·.1)=false:=by rfl):
  PE X (.Call (.Name x p) (e::es) [] pos) (ar6 sp dvs E t):=by
 intro pins s σ H Q I h
 refine wpAny_Call_Name_kw (agG I hg hm ?_ hdb)
 refine PySem.W.callWith_K (h₀:=X.base) I.ok.mod.kin hk (thn (ha pos pins s σ H _ I h) fun us s1 ⟨vs,H1,I1,r,q⟩=>⟨I1.kIn,?_⟩) he hpl
 exact aqX F hr hb hd hx I1 r q
theorem aDD{pl:Sem Bool}(he:PE X o ta)(c:Cls X.K C)(hm:Meth X.K C m f)(F:FnOk X.prog X.w X.K X.mg X.base CX k f fd ps sp)(hr:Room k X.A)(hb:Binds X.K fd ps ds)(hd:Vals dvs ds)(hx:afM CX X E)(ha:PA X (e::es) t)
  (hst:starEach (e::es) X.env=(false,eval e X.env)::starEach es X.env:=by rfl) (hpl:(backTo pos (starEach es X.env)).any (·.1)=false:=by rfl)
  (ht:eval (.Call (.Attribute o m apos) (e::es) [] pos) X.env=(do
   let ov ←eval o X.env
   standAt apos.atName
   let (f,first) ←holding [ov] (getMethod ov m pl)
   callWith pos f first (backTo pos (starEach (e::es) X.env)) (backToKw pos (keywordEach [] X.env))):=by rfl):
  PE X (.Call (.Attribute o m apos) (e::es) [] pos) (aD8 C m sp dvs E ta t):=by
 intro pins s σ H Q I h
 refine PySem.W.methodCall_KW (pl:=pl) (thn (he pins s σ H _ I h) fun u s1 ⟨x,H1,I1,rx,a,dx,fs,ex,ea,l,q⟩=>?_) ht
 subst ex
 obtain rfl:u=Value.ref a:=rx
 refine aq5 I1 ea c hm l ?_
 refine PySem.W.callWith_K (first:=[.ref a]) (h₀:=X.base) I.ok.mod.kin hm.kp (thn (ha pos pins s1 σ H1 _ I1 q) fun us s2 ⟨vs,H2,I2,r,q2⟩=>⟨I2.kIn,?_⟩) hst hpl
 exact aqX (us:=.ref a::us) (vs:=.ref a::vs) F hr hb hd hx I2 (.cons rfl r) q2
structure Mk(K:PySem.W.Frag)(C f:Addr):Prop where
 makes:PySem.W.makesIn K C=true
 init:PySem.W.findIn K (.ref C) "__init__"=some (some (.ref f))
 fn:PySem.W.isFn K (.ref f)=true
 kp:PySem.W.keepIn K (.ref C)=true
theorem aoF{pins:List (Addr×Obj)}{σ:St}{H:Hp}{s:Shared}{Q:VK}{us:List Value}{vs:List V}(M:Mk X.K C f)(F:FnOk X.prog X.w X.K X.mg X.base CX k f fd ps sp)(hr:Room (k+1) X.A)(hb:Binds X.K fd ps ds)(hd:Vals dvs ds)
  (hx:afM CX X E) (I:Inv X pins σ H s) (r:Vals vs us)
  (h:∀x dx,H x=none->H dx=none->dx≠x->sp (.ref x::(vs++dvs)) (upd (upd H dx (.own x)) x (.ins C dx [])) (fun v H2=>v=.non/\Q (.ref x) H2) E):
  wpAny (model X.prog X.w) X.A (call (.ref C) us) (EP X pins σ Q) X.xe s:=by
 have hq:=h (s.heap.objs.size+1) s.heap.objs.size (I.hok.fresh (Nat.le_succ _)) (I.hok.fresh (Nat.le_refl _)) (Nat.ne_of_lt (Nat.lt_succ_self _))
 have I2:=Inv.made (C:=C) I
 have r2:Vals (V.ref (s.heap.objs.size+1)::(vs++dvs)) (Value.ref (s.heap.objs.size+1)::(us++ds)):=.cons rfl (r.append hd)
 have hl:(Value.ref (s.heap.objs.size+1)::us++ds).length=ps.length:=by
  have e:=r2.length
  rw[F.len _ _ _ _ hq] at e
  exact e.symm
 refine wpAny_call (axI (f:=f) I.kIn M.makes M.init (beq_iff_eq.mp M.fn) (codeAny_mono (F.run _ X.stack _ _ ⟨Value.ref (s.heap.objs.size+1)::us,[]⟩ (Value.ref (s.heap.objs.size+1)::(us++ds)) _ _ E (hr.make C us [])
  (I2.env0.make C us []) (hb _ (Value.ref (s.heap.objs.size+1)::us) I2.kIn hl) r2 hq) fun r s' hq'=>?_))
 cases r with
 |error e=>exact hx pins σ _ _ e s' I2 hq'
 |ok fl=>
  cases fl with
  |ret u=>
   obtain⟨v,H',I3,rv,ev,q3⟩:=I2.after hq'
   subst ev
   exact⟨rv,⟨V.ref (s.heap.objs.size+1),H',I3,rfl,q3⟩⟩
  |next=>exact False.elim hq'
  |brk=>exact False.elim hq'
  |cont=>exact False.elim hq'
theorem aDH(M:Mk X.K C f)(F:FnOk X.prog X.w X.K X.mg X.base CX k f fd ps sp)(hr:Room (k+1) X.A)(hg:Gl X x)(hm:X.mg x=some (.ref C))(hb:Binds X.K fd ps ds)(hd:Vals dvs ds)(hx:afM CX X E)
  (ha:PA X (e::es) t) (hdb:(x==("__debug__":Str))=false:=by decide) (he:starEach (e::es) X.env=(false,eval e X.env)::starEach es X.env:=by rfl) (hpl:(backTo pos (starEach es X.env)).any (·.1)=false:=by rfl):
  PE X (.Call (.Name x p) (e::es) [] pos) (ar1 C sp dvs E t):=by
 intro pins s σ H Q I h
 refine wpAny_Call_Name_kw (agG I hg hm ?_ hdb)
 refine PySem.W.callWith_K (h₀:=X.base) I.ok.mod.kin M.kp (thn (ha pos pins s σ H _ I h) fun us s1 ⟨vs,H1,I1,r,q⟩=>⟨I1.kIn,?_⟩) he hpl
 exact aoF M F hr hb hd hx I1 r q
theorem auP(M:Mk X.K C f)(F:FnOk X.prog X.w X.K X.mg X.base CX k f fd ps sp)(hr:Room (k+1) X.A)(hg:Gl X x)(hm:X.mg x=some (.ref C))(hb:Binds X.K fd ps ds)(hd:Vals dvs ds)(hx:afM CX X E)
  (hdb:(x==("__debug__":Str))=false:=by decide):PE X (.Call (.Name x p) [] [] pos) (ar1 C sp dvs E ak0):=by
 intro pins s σ H Q I h
 refine wpAny_Call_Name_kw (agG I hg hm ?_ hdb)
 exact PySem.W.callWith_K0 I.kIn M.kp (aoF (us:=[]) M F hr hb hd hx I .nil h)
end
section
variable{X:Cx}{CX:CXT}{k:Nat}{f C:Addr}{fd:FuncData}{ps ks:List Str}{sp:Sp}{E:XK}{x m:Str}{p pos apos kpos:Pos}{e o:Expr}{es:List Expr}{kws:List Keyword}{te ta:TE}{t tk:TA}{nm:Option Str}
variable{g:List Value->List Value->List Value}{gV:List V->List V->List V}
end
structure FnScope(N P:List Str)(sc:Scope):Prop where
 kind:sc.kind=.function
 co:sc.isCoroutine=false
 gen:sc.isGenerator=false
 nd:N.Nodup
 pre:N.take P.length=P
 par:∀x∈P,sc.names.lookup x=some .local∨sc.names.lookup x=some .cell
 nofree:∀y∈sc.names,y.2≠ .free
theorem alB{kindOf:Str->Option NameKind}{x:Str}:∀{binds:List (Str×Value)} {m:Str->Option Value},(∀v,(x,v)∉binds)->bindL kindOf binds m x=m x
 |[],_,_=>rfl
 |(n,v)::r,m,h=>by
  unfold bindL
  rw[alB fun w hw=>h w (List.mem_cons_of_mem _ hw)]
  split
  ·have:x≠n:=by rintro rfl;exact h v List.mem_cons_self
   simp[this]
  ·rfl
theorem alE{kindOf:Str->Option NameKind}{x:Str}:∀{binds:List (Str×Value)} {m:Str->Option Value},(∀v,(x,v)∉binds)->bindC kindOf binds m x=m x
 |[],_,_=>rfl
 |(n,v)::r,m,h=>by
  unfold bindC
  rw[alE fun w hw=>h w (List.mem_cons_of_mem _ hw)]
  split
  ·rfl
  ·have:x≠n:=by rintro rfl;exact h v List.mem_cons_self
   simp[this]
theorem alA{kindOf:Str->Option NameKind}{x:Str}{v:Value}:∀{P:List Str} {vs:List Value} {i:Nat} {m:Str->Option Value},P.Nodup->P[i]? =some x->vs[i]? =some v->kindOf x=some .local->
  bindL kindOf (P.zip vs) m x=some v
 |[],_,_,_,_,h,_,_=>by simp at h
 |_::_,[],_,_,_,_,h,_=>by simp at h
 |p::P,w::vs,0,m,nd,h1,h2,hk=>by
  simp at h1 h2;subst h1;subst h2
  show bindL kindOf ((p,w)::P.zip vs) m p=_
  unfold bindL
  rw[alB fun v hv=>(List.nodup_cons.mp nd).1 (List.of_mem_zip hv).1,if_pos hk]
  simp
 |p::P,w::vs,i+1,m,nd,h1,h2,hk=>by
  show bindL kindOf ((p,w)::P.zip vs) m x=_
  unfold bindL
  exact alA (i:=i) (List.nodup_cons.mp nd).2 (by simpa using h1) (by simpa using h2) hk
theorem alN{kindOf:Str->Option NameKind}{x:Str}{v:Value}:∀{P:List Str} {vs:List Value} {i:Nat} {m:Str->Option Value},P.Nodup->P[i]? =some x->vs[i]? =some v->kindOf x≠some .local->
  bindC kindOf (P.zip vs) m x=some v
 |[],_,_,_,_,h,_,_=>by simp at h
 |_::_,[],_,_,_,_,h,_=>by simp at h
 |p::P,w::vs,0,m,nd,h1,h2,hk=>by
  simp at h1 h2;subst h1;subst h2
  show bindC kindOf ((p,w)::P.zip vs) m p=_
  unfold bindC
  rw[alE fun v hv=>(List.nodup_cons.mp nd).1 (List.of_mem_zip hv).1,if_neg hk]
  simp
 |p::P,w::vs,i+1,m,nd,h1,h2,hk=>by
  show bindC kindOf ((p,w)::P.zip vs) m x=_
  unfold bindC
  exact alN (i:=i) (List.nodup_cons.mp nd).2 (by simpa using h1) (by simpa using h2) hk
def start(N:List Str)(vs:List V):St:=vs.map some++List.replicate (N.length-vs.length) none
def aj7(CX:CXT)(P:Program)(w:World)(K:PySem.W.Frag)(mg:Str->Option Value)(base:Heap)(N:List Str)(qual:Str)(scope:Scope)(f:Addr)(cd:Value)(A:Around)(outer:List Env)(s:Shared)(H:Hp)(E:XK):Cx where
 prog:=P
 w:=w
 K:=K
 mg:=mg
 base:=base
 A:=A.deeper (envOfC qual scope s.heap.objs.size f cd)
 N:=N
 s₀:=s
 H₀:=H
 env:=envOfC qual scope s.heap.objs.size f cd
 outer:=outer
 stack:=envOfC qual scope s.heap.objs.size f cd::outer
 ex:=[]
 calm:=true
 fn:=fun _=>true
 pn:=[]
 xe:=fun e s'=>wpAny (model P w) (A.deeper (envOfC qual scope s.heap.objs.size f cd)) (leaving (envOfC qual scope s.heap.objs.size f cd) e) (fun _ s''=>CX outer H s E e s'') (fun e' s''=>CX outer H s E e' s'') s'
theorem aoM{sc:Scope}{n:Nat}{x:Str}(h:sc.names.lookup x=some .cell):∃c,(cellsFrom n sc.names []).lookup x=some c:=by
 have q:=PySem.W.cellsFrom_some sc.names n [] (.inl h)
 exact Option.isSome_iff_exists.mp q
theorem atJ{CX:CXT}{P:Program}{w:World}{K:PySem.W.Frag}{mg:Str->Option Value}{base:Heap}{N ps:List Str}{qual:Str}{scope:Scope}{f:Addr}{cd:Value}{A:Around}{outer:List Env}{s s1:Shared}{H:Hp}{E:XK}{us:List Value}{vs:List V}
  (S:FnScope N ps scope) (hd:A.handled=none) (e0:Env0 P w K mg base A outer s H) (hl:vs.length=ps.length) (r:Vals vs us)
  (x:InCallC s s.heap.objs.size (bindL (envOfC qual scope s.heap.objs.size f cd).kindOf (ps.zip us) fun _=>none) (cellsFrom (s.heap.objs.size+1) scope.names []) (bindC (envOfC qual scope s.heap.objs.size f cd).kindOf (ps.zip us) fun _=>none) s1):
  Inv (aj7 CX P w K mg base N qual scope f cd A outer s H E) [] (start N vs) H s1:=by
 have hpl:ps.length<=N.length:=by have:=congrArg List.length S.pre;rw[List.length_take] at this;omega
 obtain⟨h1,tk,rfl,hk⟩:=x.done
 have noA:∀b:Addr,b∉(aj7 CX P w K mg base N qual scope f cd A outer s H E).ex:=fun b z=>absurd (show b∈([]:List Addr) from z) (by simp)
 refine⟨⟨e0.mod,S.kind,rfl,rfl,Nat.le_refl _,fun y z c h1 h2=>?_,fun y hy=>?_,fun y c _ h=>?_,fun _=>hd,Around.frames_deeper e0.frames,.inr ⟨rfl,rfl⟩,fun b z=>absurd z (noA b),e0.bs,e0.bsz,fun b _ _=>noA b,fun b z=>absurd z (noA b),e0.funs,e0.frf⟩,
  rfl,e0.bare,Un.kept hk,⟨_,x.toInCall.ns,fun i y v h1 h2 h3=>?_⟩,fun y c h=>⟨_,x.cell y c h⟩,e0.hok.fresh (Nat.le_refl _),fun y c h=>?_,fun p hp=>absurd (show p∈([]:List (Addr×Obj)) from hp) (by simp),e0.hok.kept hk,?_⟩
 ·exact name_of_addr x.apart (PySem.mem_of_lookup h1) (PySem.mem_of_lookup h2)
 ·have hy:scope.names.lookup y=some .cell∨scope.names.lookup y=some .free:=hy
  rcases hy with hy | hy
  ·exact aoM hy
  ·exact absurd rfl (S.nofree _ (PySem.mem_of_lookup hy))
 ·exact Nat.le_of_lt (x.above y c (PySem.mem_of_lookup h))
 ·have hi:i<vs.length:=by
   unfold start at h2
   by_cases hi:i<vs.length
   ·exact hi
   ·rw[List.getElem?_append_right (by simpa using hi)] at h2
    rw[List.getElem?_replicate] at h2
    split at h2<;>cases h2
  have ha:vs[i]? =some v:=by
   unfold start at h2
   rw[List.getElem?_append_left (by simpa using hi),List.getElem?_map] at h2
   cases e:vs[i]? with
   |none=>rw[e] at h2;cases h2
   |some a=>rw[e] at h2;cases h2;rfl
  obtain⟨u,hu,rv⟩:=r.get ha
  have hp:ps[i]? =some y:=by
   rw[←S.pre,List.getElem?_take_of_lt (by omega)];exact h1
  have ndP:ps.Nodup:=by rw[←S.pre];exact S.nd.sublist (List.take_sublist _ _)
  refine⟨u,rv,?_⟩
  rcases S.par y (List.mem_of_getElem? hp) with k | k
  ·exact .inl ⟨k,alA ndP hp hu k⟩
  ·obtain⟨c,e⟩:=aoM (n:=s.heap.objs.size+1) k
   refine .inr ⟨.inl k,c,e,?_⟩
   have q:=x.cell y c e
   rw[alN ndP hp hu (by show scope.names.lookup y≠_;rw[k];decide)] at q
   exact q
 ·exact e0.hok.fresh (Nat.le_of_lt (x.above y c (PySem.mem_of_lookup h)))
 ·unfold start
  show _=N.length
  rw[List.length_append,List.length_map,List.length_replicate]
  omega
theorem aEB{CX:CXT}{P:Program}{w:World}{K:PySem.W.Frag}{mg:Str->Option Value}{base:Heap}{k:Nat}{f:Addr}{name qual:Str}{params:Arguments}{body:List Stmt}{scope:Scope}{dV kV doc pm cdv ct oc:Value}{an od:Option Addr}
  {osl:Array (Option Value)} {N ps:List Str} {sp:Sp} (lk:K.lookup f=some ⟨oc,od,.func (PySem.W.fnOf name qual params body scope dV kV doc pm an cdv ct),osl⟩) (hcd:PySem.W.codeIn K cdv qual=true) (S:FnScope N ps scope)
  (len:∀vs H Q E,sp vs H Q E->vs.length=ps.length)
  (hbody:∀(A:Around) (outer:List Env) (s:Shared) (H:Hp) (vs:List V) (Q:VK) (E:XK),Room k (A.deeper (envOfC qual scope s.heap.objs.size f cdv))->sp vs H Q E->
   ∃t,PSs (aj7 CX P w K mg base N qual scope f cdv A outer s H E) body t/\t {nx:=fun _ H'=>Q .non H',rt:=Q} (start N vs) H):
  FnOk P w K mg base CX (k+1) f (PySem.W.fnOf name qual params body scope dV kV doc pm an cdv ct) ps sp:=by
 refine⟨len,fun A outer s H args us vs Q E hr e0 hb r hsp=>?_⟩
 have hl:=len _ _ _ _ hsp
 have KX:K.In s.heap:=e0.mod.kin.keeps fun b o e=>(e0.bs b o e).1
 have lim:s.heap.NoLimit:=e0.mod.nolimit.keeps fun b o e=>(e0.bs b o e).1
 have hkind:∀y∈ps.zip us,scope.names.lookup y.1=some .local∨(scope.names.lookup y.1=some .cell/\((cellsFrom (s.heap.objs.size+1) scope.names []).lookup y.1).isSome=true):=fun ⟨n,v⟩ hy=>by
  rcases S.par n (List.of_mem_zip hy).1 with q | q
  ·exact .inl q
  ·exact .inr ⟨q,PySem.W.cellsFrom_some _ _ _ (.inl q)⟩
 refine codeAny_call_function hr.depth (KX _ _ lk) rfl S.co S.gen rfl (PySem.W.codeRec_of KX hcd) (hb _ _ _ _ ?_)
 refine wpAny_newFunctionEnv_cells S.kind hkind fun env he s1 x=>?_
 subst he
 refine⟨lim.keeps x.toInCall.keep,codeAny_func ?_⟩
 obtain⟨t,ht,hq⟩:=hbody A outer s H vs Q E (hr.deeper _) hsp
 have I:Inv (aj7 CX P w K mg base N qual scope f cdv A outer s H E) [] (start N vs) H s1:=atJ S hr.hd e0 hl r x
 refine wpAny_mono (ht [] s1 (start N vs) H _ I hq) (fun fl s' hs=>?_) fun e s' hs=>hs
 have fin:∀{σ':St} {H':Hp} {v:V} {u:Value},Inv (aj7 CX P w K mg base N qual scope f cdv A outer s H E) [] σ' H' s'->RelV v u->Q v H'->CE outer P w H s Q u s':=
  fun {σ' H' v u} J rv q=>⟨v,H',J.os,J.bare,J.base,J.hok,rv,q⟩
 cases fl with
 |ret u=>
  obtain⟨v,σ',H',J,rv,q⟩:=hs
  exact fin J rv q
 |next=>
  obtain⟨σ',H',J,q⟩:=hs
  exact fin (v:=V.non) (u:=Value.none) J rfl q
 |brk=>
  obtain⟨_,_,_,q⟩:=hs
  exact False.elim q
 |cont=>
  obtain⟨_,_,_,q⟩:=hs
  exact False.elim q
section
variable{X:Cx}{x:Str}{p pos:Pos}{e:Expr}{es:List Expr}{t:TA}{id T:String}{r:List V->Hp->VK->Prop}
def tCB(r:List V->Hp->VK->Prop)(t:TA):TE:=fun σ H Q=>t σ H fun vs H1=>r vs H1 Q
theorem axK(hc:acM X (.builtin id) r)(hg:Gl X x)(hm:X.mg x=none)(hv:bootBuiltins x=some (.builtin id))(ha:PA X (e::es) t)(hn:x≠"__name__":=by decide)(hdb:(x==("__debug__":Str))=false:=by decide)
  (he:starEach (e::es) X.env=(false,eval e X.env)::starEach es X.env:=by rfl) (hpl:(backTo pos (starEach es X.env)).any (·.1)=false:=by rfl):PE X (.Call (.Name x p) (e::es) [] pos) (tCB r t):=by
 intro pins s σ H Q I h
 refine wpAny_Call_Name_kw (agQ I hg hm hv ?_ hn hdb)
 exact PyProof.Rows.callWith_builtin1 (thn (ha pos pins s σ H _ I h) fun us s1 ⟨vs,H1,I1,r1,q1⟩=>hc pins s1 σ H1 vs us Q I1 r1 q1) he hpl
theorem asV(hc:acM X (.type T) r)(hg:Gl X x)(hm:X.mg x=none)(hv:bootBuiltins x=some (.type T))(ha:PA X (e::es) t)(hn:x≠"__name__":=by decide)(hdb:(x==("__debug__":Str))=false:=by decide)
  (he:starEach (e::es) X.env=(false,eval e X.env)::starEach es X.env:=by rfl) (hpl:(backTo pos (starEach es X.env)).any (·.1)=false:=by rfl):PE X (.Call (.Name x p) (e::es) [] pos) (tCB r t):=by
 intro pins s σ H Q I h
 refine wpAny_Call_Name_kw (agQ I hg hm hv ?_ hn hdb)
 exact PyProof.Rows.callWith_type1 (thn (ha pos pins s σ H _ I h) fun us s1 ⟨vs,H1,I1,r1,q1⟩=>hc pins s1 σ H1 vs us Q I1 r1 q1) he hpl
end
end L2
namespace HT
open PySem PyProof.Rows
section
open PySem.SeqAt
open PySem.AutoSeq1 (wpAny_loadPart')
open PySem.MeetsSeq PySem.MeetsSeq2 PySem.MeetsSeq3
end
section
variable{prog:Program}{w:World}{A:Around}{E:Value->Shared->Prop}{s:Shared}
def sIx(n d:Nat):Option Int->Nat
 |none=>d
 |some v=>if v<0 then (v+(n:Int)).toNat else min v.toNat n
theorem sIx_le(n d:Nat)(hd:d<=n)(o:Option Int):sIx n d o<=n:=by
 cases o with
 |none=>exact hd
 |some v=>
  show (if v<0 then (v+(n:Int)).toNat else min v.toNat n)<=n
  by_cases hv:v<0
  ·rw[if_pos hv];omega
  ·rw[if_neg hv];exact Nat.min_le_right _ _
end
end HT
namespace L2
open PySem PySem.Spec PyProof.Rows
abbrev TO:=St->Hp->(Option Int->Hp->Prop)->Prop
def PO(X:Cx)(e:Option Expr)(t:TO):Prop:=
 ∀(pins:List (Addr×Obj)) (s:Shared) (σ:St) (H:Hp) (Q:Option Int->Hp->Prop),Inv X pins σ H s->t σ H Q->
  wpAny (model X.prog X.w) X.A (evalPart e X.env) (fun u s'=>∃o H',Inv X pins σ H' s'/\IsPart u o/\Q o H') X.xe s
def arT:TO:=fun _ H Q=>Q none H
def aD9(t:TE):TO:=fun σ H Q=>t σ H fun x H1=>∃i,x=.int i/\Q (some i) H1
section
variable{X:Cx}{e:Expr}{te:TE}{lo hi:Option Expr}{tl th:TO}{pos p2:Pos}
theorem ayZ:PO X none arT:=by
 intro pins s σ H Q I h
 rw[evalPart_none]
 exact wpAny_pure ⟨none,H,I,.none,h⟩
theorem azE(h:PE X e te):PO X (some e) (aD9 te):=by
 intro pins s σ H Q I hw
 rw[evalPart_some]
 refine thn (h pins s σ H _ I hw) fun u s1 ⟨x,H1,I1,r1,q1⟩=>?_
 obtain⟨i,rfl,q⟩:=q1
 obtain⟨t,rfl⟩:=r1
 exact⟨some i,H1,I1,.int i t,q⟩
def SlR(X:Cx)(r:V->Option Int->Option Int->Hp->VK->Prop):Prop:=
 ∀(pins:List (Addr×Obj)) (s:Shared) (σ:St) (H:Hp) (x:V) (v vl vu:Value) (lo hi:Option Int) (sl:Addr) (Q:VK),Inv X pins σ H s->RelV x v->s.heap.IsSliceOf sl vl vu .none->IsPart vl lo->IsPart vu hi->r x lo hi H Q->
  ∃T id,typeLookup (.type T) "__getitem__"=pure (some (.builtin id))/\s.TypeIs v T/\wpAny (model X.prog X.w) X.A (getItem v (.ref sl)) (EP X pins σ Q) X.xe s
def tSl(r:V->Option Int->Option Int->Hp->VK->Prop)(te:TE)(tl th:TO):TE:=fun σ H Q=>te σ H fun x H1=>tl σ H1 fun l H2=>th σ H2 fun u H3=>r x l u H3 Q
theorem avB{r:V->Option Int->Option Int->Hp->VK->Prop}(hr:SlR X r)(he:PE X e te)(hl:PO X lo tl)(hu:PO X hi th):PE X (.Subscript e (.Slice lo hi none p2) pos) (tSl r te tl th):=by
 intro pins s σ H Q I h
 refine Subscript_ (thn (he pins s σ H _ I h) fun v s1 ⟨x,H1,I1,r1,q1⟩=>?_)
 refine wpAny_Slice (thn (hl pins s1 σ H1 _ I1 q1) fun vl s2 ⟨l,H2,I2,pl,q2⟩=>thn (hu pins s2 σ H2 _ I2 q2) fun vu s3 ⟨u,H3,I3,pu,q3⟩=>?_)
 rw[evalPart_none]
 refine wpAny_pure ?_
 have I4:Inv X pins σ H3 {s3 with heap:=s3.heap.push {cls:=.type "slice",data:=.fields #[vl,vu,.none]} }:=I3.kept (t':=s3.toks) fun b ob q=>Heap.get?_push_of_some _ q
 obtain⟨T,id,hT,ht,hg⟩:=hr pins {s3 with heap:=s3.heap.push {cls:=.type "slice",data:=.fields #[vl,vu,.none]} } σ H3 x v vl vu l u s3.heap.objs.size Q I4 r1 (Heap.IsSliceOf.new ..) pl pu q3
 show wpAny (model X.prog X.w) X.A (subscriptTail e (.Slice lo hi none p2) v (.ref s3.heap.objs.size)) (EP X pins σ Q) X.xe {s3 with heap:=s3.heap.push {cls:=.type "slice",data:=.fields #[vl,vu,.none]} }
 exact tail_any (ops:=[.ref s3.heap.objs.size,v]) ht hT hg (by with_unfolding_all rfl)
def ahZ(xs:List V)(lo hi:Option Int):List V:=(xs.drop (HT.sIx xs.length 0 lo)).take (HT.sIx xs.length xs.length hi-HT.sIx xs.length 0 lo)
theorem apD(xs:List V)(lo hi:Option Int):(ahZ xs lo hi).length<=xs.length:=by
 unfold ahZ
 rw[List.length_take,List.length_drop]
 omega
end
def ixN(n:Nat)(i:Int):Option Nat:=if 0<=i then (if i<n then some i.toNat else none) else if -(n:Int)<=i then some (i+n).toNat else none
def atI{α:Type}(xs:List α)(i:Int):Option α:=(ixN xs.length i).bind fun j=>xs[j]?
theorem azM{n:Nat}{i:Int}{j:Nat}(h:ixN n i=some j):seqIndex? i n=some j/\j<n/\ -(n:Int)<=i/\i<n:=by
 unfold ixN at h
 by_cases h0:0<=i
 ·rw[if_pos h0] at h
  by_cases h1:i<n
  ·rw[if_pos h1] at h
   have e:i.toNat=j:=Option.some.inj h
   exact⟨by rw[seqIndex_of h0 h1,e],by omega,by omega,h1⟩
  ·rw[if_neg h1] at h;cases h
 ·rw[if_neg h0] at h
  by_cases h1: -(n:Int)<=i
  ·rw[if_pos h1] at h
   have e:(i+n).toNat=j:=Option.some.inj h
   exact⟨by rw[seqIndex_neg (by omega) h1,e],by omega,h1,by omega⟩
  ·rw[if_neg h1] at h;cases h
theorem amQ{α:Type}{xs:List α}{i:Int}{v:α}(h:atI xs i=some v):∃j,seqIndex? i xs.length=some j/\xs[j]? =some v/\j<xs.length/\ -(xs.length:Int)<=i/\i<xs.length:=by
 unfold atI at h
 cases e:ixN xs.length i with
 |none=>rw[e] at h;cases h
 |some j=>
  rw[e] at h
  obtain⟨h1,h2,h3,h4⟩:=azM e
  exact⟨j,h1,h,h2,h3,h4⟩
theorem af7{α:Type}{xs:List α}{j:Nat}{v:α}(h:xs[j]? =some v):atI xs (j:Int)=some v:=by
 have hj:j<xs.length:=(List.getElem?_eq_some_iff.mp h).1
 have e:ixN xs.length (j:Int)=some j:=by
  unfold ixN
  rw[if_pos (by omega),if_pos (by omega)];simp
 unfold atI;rw[e];exact h
def arM(b:Expr):Prop:=∀o i,subscripted b false o i=operate [o,i] (getItem o i)
def IxR(X:Cx)(r:R2):Prop:=
 ∀(value slice:Expr) (pins:List (Addr×Obj)) (s:Shared) (σ:St) (H:Hp) (x y:V) (v u:Value) (Q:VK),Inv X pins σ H s->RelV x v->RelV y u->r x y H Q->
  subscripted slice false v u=operate [v,u] (getItem v u)->wpAny (model X.prog X.w) X.A (subscriptTail value slice v u) (EP X pins σ Q) X.xe s
def MtR(X:Cx)(id:String)(r:V->List V->Hp->VK->Prop):Prop:=
 ∀(pins:List (Addr×Obj)) (s:Shared) (σ:St) (H:Hp) (x:V) (xs:List V) (v:Value) (us:List Value) (Q:VK),Inv X pins σ H s->RelV x v->Vals xs us->r x xs H Q->
  wpAny (model X.prog X.w) X.A (call (.builtin id) (v::us)) (EP X pins σ Q) X.xe s
section
variable{X:Cx}{a b:Expr}{ta tb:TE}{pos:Pos}
theorem aOO{r:R2}(hr:IxR X r)(ha:PE X a ta)(hb:PE X b tb)(hs:arM b):PE X (.Subscript a b pos) (tOp r ta tb):=by
 intro pins s σ H Q I h
 exact Subscript_ (aGI ha hb I h fun v u s2 x y H2 I2 rx ry q=>hr a b pins s2 σ H2 x y v u Q I2 rx ry q (hs _ _))
def aM4(K:PySem.W.Frag):R2:=fun x y H Q=>∃p xs i v,x=.ref p/\y=.int i/\SqL K H p xs/\atI xs i=some v/\Q v H
def aII(K:PySem.W.Frag):R2:=fun x y H Q=>∃p xs i v,x=.ref p/\y=.int i/\SqT K H p xs/\atI xs i=some v/\Q v H
def rIxS:R2:=fun x y H Q=>∃z i c,x=.str z/\y=.int i/\z.length<=sizeLine/\atI z.cps.toList i=some c/\Q (.str ⟨#[c]⟩) H
theorem aCN:IxR X (aM4 X.K):=by
 intro value slice pins s σ H x y v u Q I rx ry h hs
 obtain⟨p,xs,i,z,rfl,rfl,hq,he,q⟩:=h
 cases rx
 obtain⟨t,rfl⟩:=ry
 obtain⟨its,r,pl,hz⟩:=I.list hq
 obtain⟨j,h1,h2,h3,h4,h5⟩:=amQ he
 obtain⟨w,ew,rw'⟩:=r.get h2
 have hl:=r.length
 have hn:=ajB
 have fin:EP X pins σ Q w s:=⟨z,H,I,rw',q⟩
 by_cases h0:0<=i
 ·have hj:i.toNat=j:=by
   rw[seqIndex_of h0 h5] at h1
   exact Option.some.inj h1
  exact item_listR pl.isList h0 (by omega) (by rw[hj];simpa using ew) fin hs
 ·have hj:(i+(its.toArray.size:Int)).toNat=j:=by
   rw[seqIndex_neg (by omega) h4] at h1
   rw[List.size_toArray,←hl]
   exact Option.some.inj h1
  exact subscriptTail_builtinR (x:=w) pl.isList.typeIs slot_list_getitem.lookup
   (wpAny_getItem_list_neg (Q:=fun r s'=>r=w/\EP X pins σ Q r s') pl.isList (by omega) (by rw[List.size_toArray]<;>omega) (by omega) (by rw[hj];simpa using ew) ⟨rfl,fin⟩) hs
theorem aI9:IxR X (aII X.K):=by
 intro value slice pins s σ H x y v u Q I rx ry h hs
 obtain⟨p,xs,i,z,rfl,rfl,hq,he,q⟩:=h
 cases rx
 obtain⟨t,rfl⟩:=ry
 obtain⟨its,r,pl,hz⟩:=I.tuple hq
 obtain⟨j,h1,h2,h3,h4,h5⟩:=amQ he
 obtain⟨w,ew,rw'⟩:=r.get h2
 have hl:=r.length
 have hn:=ajB
 have fin:EP X pins σ Q w s:=⟨z,H,I,rw',q⟩
 exact subscriptTail_builtinR (x:=w) pl.typeIs slot_tuple_getitem.lookup
  (getItem_tuple (j:=j) (Q:=fun r s'=>r=w/\EP X pins σ Q r s') pl (by omega) (by omega) (by rw[List.size_toArray,←hl];exact h1) (by simpa using ew) ⟨rfl,fin⟩) hs
theorem aKO:IxR X rIxS:=by
 intro value slice pins s σ H x y v u Q I rx ry h hs
 obtain⟨z,i,c,rfl,rfl,hz,he,q⟩:=h
 obtain⟨t,rfl⟩:=rx
 obtain⟨t',rfl⟩:=ry
 obtain⟨j,h1,h2,h3,h4,h5⟩:=amQ he
 have hl:z.cps.toList.length=z.length:=by simp[Str.length]
 rw[hl] at h1 h4 h5
 have hn:=ajB
 exact tail_any (typeIs_str s z t) slot_str_getitem.lookup (getItem_str (c:=c) (by
  have e1:decide (i< -(2^63:Int))=false:=decide_eq_false (by omega)
  have e2:decide (i ≥ 2^63)=false:=decide_eq_false (by omega)
  rw[e1,e2,Bool.or_false]) (by rw[h1];simpa using h2) ⟨.str ⟨#[c]⟩,H,I.tok _,⟨_,rfl⟩,q⟩) hs
theorem Inv.lst{pins:List (Addr×Obj)}{σ:St}{H:Hp}{s:Shared}{p:Addr}{xs:List V}(I:Inv X pins σ H s)(h:H p=some (.lst xs)):
  ∃(its:List Value) (n:Nat),Vals xs its/\s.heap.get? p=some {cls:=.type "list",data:=.seq its.toArray n}/\xs.length<=sizeLine:=by
 obtain⟨z,its,n,r,e⟩:=I.hok p _ h
 exact⟨its,n,r,e,z⟩
theorem anO(lo hi:Option Int)(n:Nat):(sliceBounds lo hi none n).1=((HT.sIx n 0 lo:Nat):Int)/\(sliceBounds lo hi none n).2.1=((HT.sIx n n hi:Nat):Int)/\(sliceBounds lo hi none n).2.2=1:=by
 refine⟨?_,?_,rfl⟩
 ·cases lo with
  |none=>simp[sliceBounds,HT.sIx]
  |some i=>
   simp only[sliceBounds,HT.sIx,Option.getD_none,show (1:Int)>0 by decide,if_true]
   by_cases h:i<0
   ·simp only[h,if_true]<;>omega
   ·simp only[h,if_false]<;>omega
 ·cases hi with
  |none=>simp[sliceBounds,HT.sIx]
  |some i=>
   simp only[sliceBounds,HT.sIx,Option.getD_none,show (1:Int)>0 by decide,if_true]
   by_cases h:i<0
   ·simp only[h,if_true]<;>omega
   ·simp only[h,if_false]<;>omega
theorem akY(its:List Value)(lo hi:Option Int):slicePick its.toArray lo hi none=((its.drop (HT.sIx its.length 0 lo)).take (HT.sIx its.length its.length hi-HT.sIx its.length 0 lo)).toArray:=by
 obtain⟨h1,h2,h3⟩:=anO lo hi its.toArray.size
 unfold slicePick
 rw[h1,h2,h3]
 simp only[sliceRange_one,pick_run,List.size_toArray]<;>rfl
def aL8(K:PySem.W.Frag):V->Option Int->Option Int->Hp->VK->Prop:=fun x lo hi H Q=>∃a xs,x=.ref a/\SqL K H a xs/\∀p,H p=none->Q (.ref p) (upd H p (.lst (ahZ xs lo hi)))
theorem aBN:SlR X (aL8 X.K):=by
 intro pins s σ H x v vl vu lo hi sl Q I rx hs pl pu h
 obtain⟨a,xs,rfl,hx,q⟩:=h
 cases rx
 obtain⟨its,r,ht,hz⟩:=I.list hx
 have hlen:=r.length
 refine⟨"list",_,slot_list_getitem.lookup,ht.isList.typeIs,?_⟩
 refine wpAny_getItem_list_slice ht.isList hs pl pu .none (by simp) ?_ (by rw[List.size_toArray]<;>omega)
 rw[akY,←hlen]
 refine⟨.ref s.heap.objs.size,_,I.laid (t':=s.toks) (o:=.lst (ahZ xs lo hi)) (fun b ob q=>Heap.get?_push_of_some _ q) (Nat.le_refl _) ?_,rfl,q _ (I.hok.fresh (Nat.le_refl _))⟩
 exact⟨Nat.le_trans (apD xs lo hi) hz,_,0,(r.drop (HT.sIx xs.length 0 lo)).take (HT.sIx xs.length xs.length hi-HT.sIx xs.length 0 lo),Heap.get?_push_size _ rfl⟩
def afD:V->Bool
 |.non=>true
 |.bl _=>true
 |.int _=>true
 |.str _=>true
 |_=>false
def eqV:V->V->Bool
 |.non,.non=>true
 |.bl a,.bl b=>a==b
 |.bl a,.int b=>(if a then 1 else 0)==b
 |.int a,.bl b=>a==(if b then 1 else 0)
 |.int a,.int b=>a==b
 |.str a,.str b=>a==b
 |_,_=>false
theorem aFB{A:Around}{s:Shared}{y x:V}{u v:Value}(ry:RelV y u)(rx:RelV x v)(fy:afD y=true)(fx:afD x=true):SeqAt.EqAt A s u v (eqV y x):=by
 cases y with
 |non=>
  cases ry
  cases x with
  |non=>cases rx;exact SeqAt.EqAt.same _
  |bl b=>cases rx;exact SeqAt.EqAt.none_bool b
  |int b=>obtain⟨t,rfl⟩:=rx;exact SeqAt.EqAt.none_int b t
  |str b=>obtain⟨t,rfl⟩:=rx;exact SeqAt.EqAt.none_str b t
  |_=>exact absurd (show false=true from fx) Bool.false_ne_true
 |bl a=>
  cases ry
  cases x with
  |non=>cases rx;exact SeqAt.EqAt.bool_none a
  |bl b=>cases rx;exact SeqAt.EqAt.bool_bool a b
  |int b=>obtain⟨t,rfl⟩:=rx;exact SeqAt.EqAt.bool_int a b t
  |str b=>obtain⟨t,rfl⟩:=rx;exact SeqAt.EqAt.bool_str a b t
  |_=>exact absurd (show false=true from fx) Bool.false_ne_true
 |int a=>
  obtain⟨t',rfl⟩:=ry
  cases x with
  |non=>cases rx;exact SeqAt.EqAt.int_none a t'
  |bl b=>cases rx;exact SeqAt.EqAt.int_bool a t' b
  |int b=>obtain⟨t,rfl⟩:=rx;exact SeqAt.EqAt.int_int a t' b t
  |str b=>obtain⟨t,rfl⟩:=rx;exact SeqAt.EqAt.int_str a t' b t
  |_=>exact absurd (show false=true from fx) Bool.false_ne_true
 |str a=>
  obtain⟨t',rfl⟩:=ry
  cases x with
  |non=>cases rx;exact SeqAt.EqAt.str_none a t'
  |bl b=>cases rx;exact SeqAt.EqAt.str_bool a t' b
  |int b=>obtain⟨t,rfl⟩:=rx;exact SeqAt.EqAt.str_int a t' b t
  |str b=>obtain⟨t,rfl⟩:=rx;exact SeqAt.EqAt.str_str a t' b t
  |_=>exact absurd (show false=true from fx) Bool.false_ne_true
 |_=>exact absurd (show false=true from fy) Bool.false_ne_true
def eqU(x:V)(u:Value):Bool:=match u with
 |.none=>eqV .non x
 |.bool b=>eqV (.bl b) x
 |.int i _=>eqV (.int i) x
 |.str z _=>eqV (.str z) x
 |_=>false
theorem axA{x y:V}{u:Value}(r:RelV y u)(f:afD y=true):eqU x u=eqV y x:=by
 cases y with
 |non=>cases r;rfl
 |bl b=>cases r;rfl
 |int i=>obtain⟨t,rfl⟩:=r;rfl
 |str z=>obtain⟨t,rfl⟩:=r;rfl
 |_=>exact absurd (show false=true from f) Bool.false_ne_true
theorem amS{x:V}:∀{xs:List V} {us:List Value},Vals xs us->xs.all afD=true->us.any (eqU x)=xs.any fun y=>eqV y x
 |_,_,.nil,_=>rfl
 |y::xs,u::us,.cons r t,f=>by
  rw[List.all_cons,Bool.and_eq_true] at f
  rw[List.any_cons,List.any_cons,axA r f.1,amS t f.2]
theorem akB{A:Around}{s:Shared}{x:V}{v:Value}(rx:RelV x v)(fx:afD x=true):∀{xs:List V} {us:List Value},Vals xs us->xs.all afD=true->∀u∈us,SeqAt.EqAt A s u v (eqU x u)
 |_,_,.nil,_=>fun u hu=>by cases hu
 |y::xs,u::us,.cons r t,f=>fun u' hu=>by
  rw[List.all_cons,Bool.and_eq_true] at f
  rcases List.mem_cons.mp hu with rfl | hu
  ·rw[axA r f.1];exact aFB r rx f.1 fx
  ·exact akB rx fx t f.2 u' hu
def inV(x:V)(xs:List V):Bool:=xs.any fun y=>eqV y x
def rIn(K:PySem.W.Frag)(neg:Bool):R2:=fun x y H Q=>∃p xs,y=.ref p/\(SqL K H p xs∨SqT K H p xs)/\afD x=true/\xs.all afD=true/\Q (.bl (if neg then !inV x xs else inV x xs)) H
theorem asU:OpR X (compareOp .In) (rIn X.K false):=by
 intro pins s σ H x y v u Q I rx ry h
 obtain⟨p,xs,rfl,hq,fx,fs,q⟩:=h
 cases ry
 rcases hq with hq | hq
 ·obtain⟨its,r,pl,hz⟩:=I.list hq
  refine SeqAt.in_listAt (eqU x) pl.isList (fun w hw=>akB rx fx r fs w (by simpa using hw)) ⟨.bl _,H,I,rfl,?_⟩
  rw[show its.toArray.any (eqU x)=its.any (eqU x) by simp,amS r fs]
  exact q
 ·obtain⟨its,r,pl,hz⟩:=I.tuple hq
  refine SeqAt.in_tupleAt (eqU x) pl (fun w hw=>akB rx fx r fs w (by simpa using hw)) ⟨.bl _,H,I,rfl,?_⟩
  rw[show its.toArray.any (eqU x)=its.any (eqU x) by simp,amS r fs]
  exact q
theorem amH:acM X (.builtin "len") (fun xs H Q=>∃p ys,xs=[.ref p]/\(SqL X.K H p ys∨SqT X.K H p ys)/\Q (.int ys.length) H):=by
 intro pins s σ H xs us Q I r h
 obtain⟨p,ys,rfl,hq,q⟩:=h
 obtain⟨u,rfl,rx⟩:=abT r
 cases rx
 have hn:=ajB
 rcases hq with hq | hq
 ·obtain⟨its,r',pl,hz⟩:=I.list hq
  have hlen:=r'.length
  exact Calls.call_len_list pl.isList (by simp only[List.size_toArray]<;>omega) ⟨.int ys.length,H,I.tok _,⟨s.toks+1,by rw[List.size_toArray,hlen]⟩,q⟩
 ·obtain⟨its,r',pl,hz⟩:=I.tuple hq
  have hlen:=r'.length
  exact len_tuple pl (by simp only[List.size_toArray]<;>omega) ⟨.int ys.length,H,I.tok _,⟨s.toks+1,by rw[List.size_toArray,hlen]⟩,q⟩
theorem anY:acM X (.builtin "len") (fun xs H Q=>∃z,xs=[.str z]/\z.length<=sizeLine/\Q (.int z.length) H):=by
 intro pins s σ H xs us Q I r h
 obtain⟨z,rfl,hz,q⟩:=h
 obtain⟨u,rfl,t,rfl⟩:=abT r
 have hn:=ajB
 exact len_str (by omega) ⟨.int z.length,H,I.tok _,⟨_,rfl⟩,q⟩
def tyV(K:PySem.W.Frag)(T:String)(x:V)(H:Hp):Prop:=match x with
 |.str _=>T="str"
 |.int _=>T="int"
 |.ref p=>(T="list"/\∃xs,SqL K H p xs)∨(T="tuple"/\∃o,K.lookup p=some o/\o.cls=.type "tuple"/\o.dict=none)∨
   (T="dict"/\((∃kvs,H p=some (.dK kvs))∨∃kvs,H p=some (.dT kvs)))∨(T="set"/\∃S n,H p=some (.set S n))
 |_=>False
theorem auF{pins:List (Addr×Obj)}{σ:St}{H:Hp}{s:Shared}{T:String}{x:V}{v:Value}(I:Inv X pins σ H s)(r:RelV x v)(ty:tyV X.K T x H):
  s.TypeIs v T/\∀a,v=.ref a->∃ob,s.heap.get? a=some ob/\ob.dict=none:=by
 cases x with
 |str z=>
  obtain⟨t,rfl⟩:=r
  cases (show T="str" from ty)
  exact⟨typeIs_str s z t,fun _ e=>nomatch e⟩
 |int i=>
  obtain⟨t,rfl⟩:=r
  cases (show T="int" from ty)
  exact⟨typeIs_int s i t,fun _ e=>nomatch e⟩
 |ref p=>
  cases r
  rcases ty with ⟨rfl,xs,hq⟩ | ⟨rfl,o,hk,hc,hd⟩ | ⟨rfl,hk⟩ | ⟨rfl,S,n,hk⟩
  ·obtain⟨its,_,pl,_⟩:=I.list hq
   refine⟨pl.isList.typeIs,fun a e=>?_⟩
   cases e
   obtain⟨o,n,e,c,hd,_⟩:=pl
   exact⟨o,e,hd⟩
  ·refine⟨⟨o,I.kIn p o hk,hc⟩,fun a e=>?_⟩
   cases e
   exact⟨o,I.kIn _ o hk,hd⟩
  ·have z:∃o,s.heap.get? p=some o/\o.ExactDict:=by
    rcases hk with ⟨kvs,hk⟩ | ⟨kvs,hk⟩
    ·obtain⟨_,_,_,_,o,_,_,e,ex,_⟩:=I.hok p _ hk
     exact⟨o,e,ex⟩
    ·obtain⟨_,_,_,_,o,_,_,e,ex,_⟩:=I.hok p _ hk
     exact⟨o,e,ex⟩
   obtain⟨o,e,ex⟩:=z
   refine⟨⟨o,e,ex.1⟩,fun a e2=>?_⟩
   cases e2
   exact⟨o,e,ex.2.1⟩
  ·obtain⟨o,_,_,_,e,ex,_⟩:=I.hok p _ hk
   refine⟨⟨o,e,ex.1⟩,fun a e2=>?_⟩
   cases e2
   exact⟨o,e,ex.2.1⟩
 |_=>exact False.elim ty
def aOI(K:PySem.W.Frag)(T:String)(r:V->List V->Hp->VK->Prop)(to:TE):TE:=fun σ H Q=>to σ H fun x H1=>tyV K T x H1/\r x [] H1 Q
def tBM(K:PySem.W.Frag)(T:String)(r:V->List V->Hp->VK->Prop)(to:TE)(t:TA):TE:=fun σ H Q=>to σ H fun x H1=>tyV K T x H1/\t σ H1 fun xs H2=>r x xs H2 Q
variable{o e:Expr}{es:List Expr}{to:TE}{t:TA}{name:Str}{apos cpos:Pos}{T id:String}{r:V->List V->Hp->VK->Prop}
theorem aIK(pa:PlainAttrs T)(slot:Slot T name id)(hty:typeOf (.builtin id)=pure (.type "method_descriptor"))(hm:MtR X id r)(ho:PE X o to)
  (hbase:attributeBase o name X.env (eval o X.env)=eval o X.env:=by rfl) (hline:(apos.endLine==cpos.line)=true:=by rfl):PE X (.Call (.Attribute o name apos) [] [] cpos) (aOI X.K T r to):=by
 intro pins s σ H Q I h
 refine wpAny_Call_method0_late hbase hline (thn (ho pins s σ H _ I h) fun v s1 ⟨x,H1,I1,r1,ty,q1⟩=>?_)
 obtain⟨h1,h2⟩:=auF I1 r1 ty
 exact⟨T,id,pa,slot,hty,h1,h2,Calls.callWith_builtin rfl (PySem.evalArgs_none (hm pins s1 σ H1 x [] v [] Q I1 r1 .nil q1))⟩
theorem an4(pa:PlainAttrs T)(slot:Slot T name id)(hty:typeOf (.builtin id)=pure (.type "method_descriptor"))(hm:MtR X id r)(ho:PE X o to)(ha:PA X (e::es) t)
  (hbase:attributeBase o name X.env (eval o X.env)=eval o X.env:=by rfl)
  (hfew:((backTo cpos (starEach (e::es) X.env)).all (fun x=> !x.1)&&(backToKw cpos (keywordEach [] X.env)).all (fun x=>x.1.isSome)
   &&decide ((e::es).length+([]:List Keyword).length+(if ([]:List Keyword).isEmpty then 0 else 1)<30))=true:=by rfl)
  (hline:(apos.endLine==cpos.line)=true:=by rfl) (hs:starEach (e::es) X.env=(false,eval e X.env)::starEach es X.env:=by rfl) (hplain:(backTo cpos (starEach es X.env)).any (·.1)=false:=by rfl):
  PE X (.Call (.Attribute o name apos) (e::es) [] cpos) (tBM X.K T r to t):=by
 intro pins s σ H Q I h
 refine wpAny_Call_method_late hbase hfew hline rfl (thn (ho pins s σ H _ I h) fun v s1 ⟨x,H1,I1,r1,ty,q1⟩=>?_)
 obtain⟨h1,h2⟩:=auF I1 r1 ty
 refine⟨T,id,pa,slot,hty,h1,h2,?_⟩
 have hA:=ha cpos pins s1 σ H1 _ I1 q1
 rw[hs] at hA ⊢
 refine Calls.callWith_builtin (by show (false||(backTo cpos (starEach es X.env)).any (·.1))=false;rw[hplain]<;>rfl) (Calls.evalArgs_plain ?_)
 exact thn hA fun us s2 ⟨vs,H2,I2,r2,q2⟩=>hm pins s2 σ H2 x vs v us Q I2 r1 r2 q2
/- xs.append(e),list.index on a module's tuple .. are MtR facts of 06m -/
end
def MtM(X:Cx)(id:String)(r:V->List V->Hp->VK->Prop):Prop:=
 ∀(pins:List (Addr×Obj)) (s:Shared) (σ:St) (H:Hp) (x:V) (xs:List V) (v:Value) (us:List Value) (Q:VK),Inv X pins σ H s->RelV x v->Vals xs us->r x xs H Q->
  wpAny (model X.prog X.w) X.A (call (.builtin id) (v::us)) (EP X pins σ Q) X.xe s
theorem Vals.one:∀{x:V} {us:List Value},Vals [x] us->∃u,us=[u]/\RelV x u
 |_,_,.cons r .nil=>⟨_,rfl,r⟩
theorem Vals.two:∀{x y:V} {us:List Value},Vals [x,y] us->∃u v,us=[u,v]/\RelV x u/\RelV y v
 |_,_,_,.cons r (.cons q .nil)=>⟨_,_,rfl,r,q⟩
theorem Vals.rep{xs:List V}{us:List Value}(h:Vals xs us):∀k:Nat,Vals (List.replicate k xs).flatten (List.replicate k us).flatten
 |0=>.nil
 |k+1=>by
  rw[List.replicate_succ,List.replicate_succ,List.flatten_cons,List.flatten_cons]
  exact Vals.append h (Vals.rep h k)
theorem ak5(its:List Value):∀(k:Nat) (acc:List Value),
  List.foldl (fun x1 x2=>x1++x2) acc.toArray (List.replicate k its.toArray)=(acc++(List.replicate k its).flatten).toArray
 |0,acc=>by simp
 |k+1,acc=>by
  have e:acc.toArray++its.toArray=(acc++its).toArray:=by simp
  have e2:(acc++its)++(List.replicate k its).flatten=acc++(List.replicate (k+1) its).flatten:=by
   rw[List.replicate_succ,List.flatten_cons,List.append_assoc]
  rw[←e2,←ak5 its k (acc++its),←e,List.replicate_succ,List.foldl_cons]
section
variable{X:Cx}{pins:List (Addr×Obj)}{σ:St}{H:Hp}{s:Shared}{l b:Addr}{xs ys zs:List V}
theorem Inv.lset{its its':List Value}{n:Nat}{f:Array Value->Array Value}{t':Nat}(I:Inv X pins σ H s)(hH:H l=some (.lst xs))
  (e:s.heap.get? l=some {cls:=.type "list",data:=.seq its.toArray n}) (hf:f its.toArray=its'.toArray) (hv:Vals ys its') (hz:ys.length<=sizeLine):
  Inv X pins σ (upd H l (.lst ys)) {s with heap:=s.heap.update l (Obj.mapSeq f),toks:=t'}:=by
 have q:=PySem.IsL.update e f
 rw[hf] at q
 refine I.write (x:=l) (e:=l) (by rw[hH];exact trivial) (.inl rfl) (fun b' u hb hu=>(Heap.get?_update_other s.heap (Obj.mapSeq f) (Ne.symm hb)).trans hu) ⟨_,q⟩ ?_
 exact⟨hz,its',_,hv,q⟩
theorem Inv.lnew{its:List Value}{t':Nat}(I:Inv X pins σ H s)(hv:Vals ys its)(hz:ys.length<=sizeLine):
  Inv X pins σ (upd H s.heap.objs.size (.lst ys)) {s with heap:=s.heap.push {cls:=.type "list",data:=.seq its.toArray},toks:=t'}:=
 I.laid (fun _ _ q=>Heap.get?_push_of_some _ q) (Nat.le_refl _) ⟨hz,its,0,hv,Heap.get?_push_size _ rfl⟩
theorem Inv.fresh(I:Inv X pins σ H s):H s.heap.objs.size=none:=I.hok.fresh (Nat.le_refl _)
theorem Inv.lstM(I:Inv X pins σ H s)(hH:H l=some (.lst xs)):xs.length<=sizeLine/\∃(its:List Value) (n:Nat),Vals xs its/\xs.length=its.length/\s.heap.get? l=some {cls:=.type "list",data:=.seq its.toArray n}:=by
 obtain⟨z,its,n,r,e⟩:=I.hok l _ hH
 exact⟨z,its,n,r,r.length,e⟩
theorem av6{n:Nat}(h:n<=sizeLine):Builtin.List.listTooLong n=false:=by
 unfold Builtin.List.listTooLong
 exact decide_eq_false (by omega)
end
section
variable{X:Cx}
def ar8:V->List V->Hp->VK->Prop:=fun x vs H Q=>∃l xs y,x=.ref l/\vs=[y]/\H l=some (.lst xs)/\xs.length<sizeLine/\Q .non (upd H l (.lst (xs++[y])))
theorem agO:MtM X "list.append" ar8:=by
 intro pins s σ H x vs v us Q I rx rv h
 obtain⟨l,xs,y,rfl,rfl,hH,hz,q⟩:=h
 cases rx
 obtain⟨u,rfl,ru⟩:=rv.one
 obtain⟨z,its,n,r,hl,e⟩:=I.lstM hH
 refine call_meets F.slot_list_append ⟨_,e,rfl⟩ F.entry_list_append (F.args_list_append_2 _ _) (PySem.list_append l its.toArray n u (by rw[List.size_toArray];omega)) ⟨e,?_⟩
 refine⟨.non,_,I.lset (its':=its++[u]) hH e (by simp) (r.append (.cons ru .nil)) ?_,rfl,q⟩
 rw[List.length_append,List.length_singleton]
 omega
def aLN:R2:=fun x y H Q=>∃l b xs zs,x=.ref l/\y=.ref b/\H l=some (.lst xs)/\H b=some (.lst zs)/\xs.length+zs.length<=sizeLine/\∀p,H p=none->Q (.ref p) (upd H p (.lst (xs++zs)))
theorem aE6:OpR X (binaryOp .Add) aLN:=by
 intro pins s σ H x y v u Q I rx ry h
 obtain⟨l,b,xs,zs,rfl,rfl,hH,hB,hz,q⟩:=h
 cases rx
 cases ry
 obtain⟨z,its,n,r,hl,e⟩:=I.lstM hH
 obtain⟨z2,its2,n2,r2,hl2,e2⟩:=I.lstM hB
 refine PySem.P.add_list e e2 ?_ (by rw[List.size_toArray,List.size_toArray];omega)
 have ea:its.toArray++its2.toArray=(its++its2).toArray:=by simp
 rw[ea]
 exact⟨.ref _,_,I.lnew (t':=s.toks) (r.append r2) (by rw[List.length_append];omega),rfl,q _ I.fresh⟩
def aMI:R2:=fun x y H Q=>∃l k xs,x=.ref l/\y=.int k/\H l=some (.lst xs)/\ -(2^63)<=k/\k<2^63/\xs.length*k.toNat<=sizeLine/\
 ∀p,H p=none->Q (.ref p) (upd H p (.lst (List.replicate k.toNat xs).flatten))
theorem aCW{α:Type}(xs:List α)(k:Nat):(List.replicate k xs).flatten.length=k*xs.length:=by
 induction k with
 |zero=>simp
 |succ k ih=>rw[List.replicate_succ,List.flatten_cons,List.length_append,ih,Nat.succ_mul,Nat.add_comm]
theorem aIT:OpR X (binaryOp .Mult) aMI:=by
 intro pins s σ H x y v u Q I rx ry h
 obtain⟨l,k,xs,rfl,rfl,hH,h1,h2,hz,q⟩:=h
 cases rx
 obtain⟨t,rfl⟩:=ry
 obtain⟨z,its,n,r,hl,e⟩:=I.lstM hH
 have hlen:its.toArray.size*k.toNat<=sizeLine:=by rw[List.size_toArray,←hl];exact hz
 have hcap:¬its.toArray.size*k.toNat>(2^63-1) / 8:=by
  have:(sizeLine:Nat)<=(2^63-1) / 8:=by decide
  omega
 have hfit:¬(!Builtin.List.listFitsIndex k)=true:=by
  rw[fitsIndex_both h1 h2]
  exact Bool.false_ne_true
 have hlong:¬Builtin.List.listTooLong (its.toArray.size*k.toNat)=true:=by
  rw[av6 hlen]
  exact Bool.false_ne_true
 have hnew:List.foldl (fun x1 x2=>x1++x2) #[] (List.replicate (if its.toArray.isEmpty=true then 0 else k.toNat) its.toArray)=(List.replicate k.toNat its).flatten.toArray:=by
  have f0:∀m:Nat,List.foldl (fun x1 x2=>x1++x2) #[] (List.replicate m its.toArray)=(List.replicate m its).flatten.toArray:=fun m=>by
   have:=ak5 its m []
   rw[List.nil_append] at this
   exact this
  rw[f0]
  cases its with
  |nil=>simp
  |cons a r'=>rw[if_neg (by simp)]
 refine wpAny_binaryOp_repeat_ref (T:="list") (U:="int") (by decide) ⟨_,e,rfl⟩ (fun s'=>typeIs_int s' k t) noFill_list_mul F.fills_int_mul F.slot_int_rmul repeat_list F.slot_int_index.lookup
  (call_meets F.slot_int_rmul (typeIs_int s k t) F.entry_int_rmul (F.args_int_rmul_2 _ _) (int___rmul___int_list k t l its.toArray n)
   ⟨e,rfl,⟨_,e,rfl⟩,call_meets F.slot_list_mul ⟨_,e,rfl⟩ F.entry_list_mul (F.args_list_mul_2 _ _) (AutoListH.list___mul___list_int_3 l its.toArray n k t hfit hcap hlong) ⟨e,?_⟩⟩)
 rw[hnew]
 exact⟨.ref _,_,I.lnew (t':=s.toks) (r.rep k.toNat) (by rw[aCW,Nat.mul_comm];exact hz),rfl,q _ I.fresh⟩
end
section
variable{prog:Program}{w:World}{A:Around}{E:Value->Shared->Prop}{s:Shared}
end
section
variable{X:Cx}
end
end L2
namespace Att
open PySem PySem.W PySem.Calls PyProof.Rows
theorem aiO{P:Params}{h:Heap}:∀(ns:List Int) (vs:List Value),WellAll P h vs (ns.map WData.int)->IntsAre vs ns:=by
 intro ns
 induction ns with
 |nil=>
  intro vs w
  rw[List.map_nil] at w
  cases w
  exact .nil
 |cons n ns ih=>
  intro vs w
  rw[List.map_cons] at w
  cases w with
  |cons a b=>
   cases a
   exact .cons _ _ (ih _ b)
theorem as7{l:OpenLaw}{n:Nat}(hn:l.most=some n){P:Params}{h:Heap}{args:List WData}{vals:List Value}
  (hpre:l.row.toRowW.claim.pre args=true) (hwl:WellAll P h vals args):
  ∃a vs ns,vals=[Value.ref a]/\args=[WData.list (ns.map WData.int)]/\h.get? a=some {cls:=.type "list",data:=.seq vs.toArray}/\IntsAre vs ns/\ns.length<=n:=by
 have hsh:WShape.hasAll [] args [.list .int]=true:=(pre_splitW hpre).1
 have hc:l.pre.holds [] {args:=args}=true:=(pre_splitW hpre).2
 obtain⟨d,r,rfl,h1,h2⟩:=hasAllW_cons hsh
 obtain rfl:=hasAllW_nil h2
 obtain⟨xs,rfl,h3⟩:=hasW_list h1
 obtain⟨ns,rfl⟩:=items_int h3
 have hlen:ns.length<=n:=by
  unfold OpenLaw.pre at hc
  have h4:(WTm.not (.lt (.lit (.int (n:Int))) (.len (.arg 0)))).holds [] {args:=[.list (ns.map .int)]}=true:=by
   have h4:=(holds_andW hc).1
   rw[hn] at h4
   exact h4
  have h5:=condW_of h4 (w_not (w_lt w_lit (w_len_list (w_arg rfl))))
  rw[List.length_map] at h5
  refine Nat.le_of_not_lt fun q=>?_
  have q':(n:Int)<((ns.length:Nat):Int):=by omega
  first
   |(rw[decide_eq_true q'] at h5;exact absurd h5 (by decide))
   |(simp at h5;omega)
 cases hwl with
 |cons w1 w2=>
  cases w2
  cases w1 with
  |list ho hall=>exact⟨_,_,ns,rfl,rfl,ho,aiO ns _ hall,hlen⟩
theorem atU(l:OpenLaw)(args:List WData):l.row.toRowW.claim.post args (.bool true) args=true:=
 postW_of (r:=l.row.toRowW) (X:=(true==true))
  (show WShape.has [] (.bool true) .bool=true by first | rfl | decide | simp[WShape.has,WShape.arms,WShape.armsAll])
  (show (WTm.eq .res (.lit (.bool true))).value [] {args:=args,res:=some (.bool true),after:=args}=some (.bool (true==true)) from w_eq_bool (w_res rfl) w_lit) rfl
theorem attach_call{l:OpenLaw}{n:Nat}{q:Program}{loose:List Str}{XP:(Str->Option Value)->Heap->Prop}{YP:World->Heap->Prop}{d:DefRec}
  (hn:l.most=some n) (hdf:d.params.defaults=[])
  (call:∀(w:World) (s₀ s₁:Shared) (mg mb:Str->Option Value) (fa:Addr) (o:Obj) (pm cd doc:Value) (a:Addr) (vs:List Value) (ns:List Int),
   Ground q loose [] XP w s₀ mg mb s₁.heap->YP w s₁.heap->
   s₁.heap.get? fa=some o->o.data=.func (docDef d.name d.params d.body d.scope pm cd doc)->s₁.heap.CodeRec cd d.name->mg d.name=some (.ref fa)->
   s₁.heap.get? a=some {cls:=.type "list",data:=.seq vs.toArray}->IntsAre vs ns->ns.length<=n->s₁.gens= #[]->
   codeAny (model l.prog w) callerA (.call (.ref fa) ⟨[.ref a],[]⟩) (fun r s'=>r=.ok (.ret (.bool true))/\OldK s₁.heap s'.heap/\s'.os=s₁.os/\AllBare s'.gens) s₁):
  WalkO q loose XP YP l.row.toRowW d [] (fun f vs=>PySem.call f vs):=by
 intro w s₀ s₁ mg mb G Y fa o pm cd doc dV kV ho hd hcd hD hmg hg args vals as hpre hlay hrd hwl hlo
 obtain rfl:dV=.none:=Dflts.none hD hdf
 obtain rfl:kV=.none:=Dflts.noKw hD
 obtain⟨a,vs,ns,rfl,rfl,hobj,hints,hlen⟩:=as7 hn hpre hwl
 refine enter_call (codeAny_mono (call w s₀ s₁ mg mb fa o pm cd doc a vs ns G Y ho (fd_plain hd) hcd hmg hobj hints hlen hg) fun r s' hq=>?_)
 obtain⟨rfl,h2,h3,h4⟩:=hq
 exact⟨.inl ⟨.bool true,.bool true,[],rfl,fun _=>rfl,.bool true,atU l _,fun _=>⟨List.Pairwise.nil,fun _ hm=>(nomatch hm)⟩⟩,h2,h3,h4⟩
section
variable{prog:Program}{w:World}{A:Around}{E:Value->Shared->Prop}{s:Shared}{K:Frag}
end
end Att
namespace L2
open PySem PySem.Spec PyProof.Rows
theorem agV:∀{vs:List Value} {ns:List Int},IntsAre vs ns->Vals (ns.map V.int) vs
 |_,_,.nil=>.nil
 |_,_,.cons n t h=>.cons ⟨t,rfl⟩ (agV h)
def aGY(H:Hp):Prop:=∀b,H b=none∨∃o xs,H b=some (.frz o (.lst xs))
theorem awC{P:Program}{w:World}{K:PySem.W.Frag}{mg mb:Str->Option Value}{CX:CXT}{k:Nat}{fa a:Addr}{fd:FuncData}{x:Str}{sp:Sp}{s₁:Shared}{vs:List Value}{ns:List Int}
  (KX:K.In s₁.heap) (hns:s₁.heap.Ns mainGlobals mg) (hb:s₁.heap.Ns builtinsNs mb) (hbb:∀x:Str,x≠"__name__"->mb x=bootBuiltins x) (hlim:s₁.heap.NoLimit) (hg:s₁.gens= #[])
  (ha:s₁.heap.get? a=some {cls:=.type "list",data:=.seq vs.toArray}) (hi:IntsAre vs ns) (hl:ns.length<=sizeLine) (hr:Room k callerA)
  (F:∀base:Heap,K.In base->base.Ns mainGlobals mg->FnOk P w K mg base CX k fa fd [x] sp) (hbind:∀(s:Shared) (u:Value),BindsTo s fd ⟨[u],[]⟩ [(x,u)])
  (hsp:∀H:Hp,aGY H->SqL K H a (ns.map V.int)->sp [.ref a] H (fun v _=>v=.bl true) fun _ _ _=>False)
  (hCX:∀H e s',CX [] H s₁ (fun _ _ _=>False) e s'->False):
  codeAny (model P w) callerA (.call (.ref fa) ⟨[.ref a],[]⟩) (fun r s'=>r=.ok (.ret (.bool true))/\OldK s₁.heap s'.heap/\s'.os=s₁.os/\AllBare s'.gens) s₁:=by
 have rv:=agV hi
 have lenV:=hi.length
 -- from an abstract heap in which nothing but the script may be tracked
 have core:∀H:Hp,aGY H->SqL K H a (ns.map V.int)->HOk P w H s₁.heap->(∀b,H b≠none->b=a)->(H a≠none->K.lookup a=none)->
   codeAny (model P w) callerA (.call (.ref fa) ⟨[.ref a],[]⟩) (fun r s'=>r=.ok (.ret (.bool true))/\OldK s₁.heap s'.heap/\s'.os=s₁.os/\AllBare s'.gens) s₁:=by
  intro H hO hS hok hA hK
  have base_of:∀{b:Addr} {o:Obj},s₁.heap.get? b=some o->H b=none->(al4 s₁.heap H).get? b=some o:=fun e n=>auY e n
  have noA:∀{b:Addr} {o:Obj} {es:Array DictEntry} {ep:Nat},s₁.heap.get? b=some o->o.data=.dict es ep->H b=none:=fun {b o es ep} e d=>by
   cases q:H b with
   |none=>rfl
   |some u=>
    have e':b=a:=hA b (by rw[q];simp)
    subst e'
    rw[ha] at e;cases e
    have d':Data.seq vs.toArray _=Data.dict es ep:=d
    cases d'
  have nsK:∀{b:Addr} {m:Str->Option Value},s₁.heap.Ns b m->(al4 s₁.heap H).Ns b m:=fun {b m} ⟨o,es,ep,e,d,r⟩=>⟨o,es,ep,base_of e (noA e d),d,r⟩
  have hKb:K.In (al4 s₁.heap H):=fun b o e=>base_of (KX b o e) (by
   cases q:H b with
   |none=>rfl
   |some u=>
    have e':b=a:=hA b (by rw[q];simp)
    subst e'
    rw[hK (by rw[q];simp)] at e;cases e)
  have hM:Mod K mg (al4 s₁.heap H):=⟨hKb,nsK hns,⟨mb,nsK hb,hbb⟩,let ⟨mc,h1,h2⟩:=hlim;⟨mc,nsK h1,h2⟩⟩
  have e0:Env0 P w K mg (al4 s₁.heap H) callerA [] s₁ H:=⟨rfl,hM,fun b o e=>aC1 e,Nat.le_of_eq (atQ _ _),trivial,fun b hb=>absurd (show b∈([]:List Addr) from hb) (by simp),hok,.of_eq hg⟩
  refine codeAny_mono ((F _ hKb (nsK hns)).run callerA [] s₁ H ⟨[.ref a],[]⟩ [.ref a] [.ref a] _ _ hr e0 (hbind s₁ (.ref a)) (.cons rfl .nil) (hsp H hO hS)) fun r s' h=>?_
  cases r with
  |error e=>exact (hCX H e s' h).elim
  |ok fl=>
   cases fl with
   |next=>exact False.elim h
   |brk=>exact False.elim h
   |cont=>exact False.elim h
   |ret u=>
    obtain⟨v,H',os,bare,un,hok',r',q⟩:=h
    have q':v=.bl true:=q
    subst q'
    obtain rfl:u=Value.bool true:=r'
    refine⟨rfl,OldK.of_keep fun b o e=>?_,os,bare⟩
    cases q:H b with
    |none=>exact un.keep b o e q (by intro z;exact absurd (show b∈([]:List Addr) from z) (by simp)) (by simp)
    |some u=>
     rcases hO b with z | ⟨ob,xs,z⟩
     ·rw[q] at z;cases z
     ·have z2:=un.frzs b ob _ z
      obtain⟨e1,_⟩:=hok b _ z
      obtain⟨e2,_⟩:=hok' b _ z2
      rw[e] at e1;cases e1
      exact e2
 cases hk:K.lookup a with
 |some o=>
  -- the script is one of the module's own objects
  have e:=KX a o hk
  rw[ha] at e
  cases e
  refine core (fun _=>none) (fun _=>.inl rfl) (.inr ⟨_,vs.toArray,_,hk,rfl,rfl,rfl,by rw[List.size_toArray,lenV];exact hl,by simpa using rv⟩) (fun b u z=>by have z':(none:Option HO)=some u:=z;cases z') (fun b z=>absurd rfl z) fun z=>absurd rfl z
 |none=>
  refine core (fun b=>if b=a then some (.frz {cls:=.type "list",data:=.seq vs.toArray} (.lst (ns.map V.int))) else none) (fun b=>?_) (.inl (.inr ⟨{cls:=.type "list",data:=.seq vs.toArray},if_pos rfl⟩)) (fun b u z=>?_) (fun b z=>?_) fun _=>hk
  ·by_cases hb:b=a
   ·exact .inr ⟨_,_,if_pos hb⟩
   ·exact .inl (if_neg hb)
  ·by_cases hb:b=a
   ·have z':=(if_pos hb).symm.trans z
    cases z'
    subst hb
    exact⟨ha,by rw[List.length_map];exact hl,vs,_,rv,ha⟩
   ·have z':=(if_neg hb).symm.trans z
    cases z'
  ·by_cases hb:b=a
   ·exact hb
   ·exact absurd (if_neg hb) z
theorem walk_of{l:PySem.W.OpenLaw}{n k:Nat}{q:Program}{loose:List Str}{XP:(Str->Option Value)->Heap->Prop}{YP:World->Heap->Prop}{d:DefRec}{K:Params->PySem.W.Frag}{CX:World->CXT}{sp:World->Sp}{x:Str}
  (hn:l.most=some n) (hn2:n<=sizeLine) (hdf:d.params.defaults=[]) (hr:Room k callerA)
  (hY:∀(w:World) (h:Heap),YP w h->(K w.params).In h)
  (F:∀(w:World) (mg:Str->Option Value) (fa:Addr) (h:Heap),(K w.params).In h->h.Ns mainGlobals mg->mg d.name=some (.ref fa)->
   ∃fd:FuncData,(∀(s:Shared) (u:Value),BindsTo s fd ⟨[u],[]⟩ [(x,u)])/\
    ∀base:Heap,(K w.params).In base->base.Ns mainGlobals mg->FnOk l.prog w (K w.params) mg base (CX w) k fa fd [x] (sp w))
  (hsp:∀(w:World) (H:Hp) (a:Addr) (ns:List Int),ns.length<=n->aGY H->SqL (K w.params) H a (ns.map V.int)->sp w [.ref a] H (fun v _=>v=.bl true) fun _ _ _=>False)
  (hCX:∀(w:World) (H:Hp) (s:Shared) (e:Value) (s':Shared),CX w [] H s (fun _ _ _=>False) e s'->False):
  PySem.W.WalkO q loose XP YP l.row.toRowW d [] (fun f vs=>PySem.call f vs):=by
 refine Att.attach_call hn hdf fun w s₀ s₁ mg mb fa o pm cd doc a vs ns G Y ho hd hcd hmg hobj hints hlen hg=>?_
 have KX:=hY w _ Y
 obtain⟨fd,hb,hF⟩:=F w mg fa _ KX G.T.g hmg
 exact awC KX G.T.g G.T.b G.T.builtins G.T.nolimit hg hobj hints (Nat.le_trans hlen hn2) hr hF hb (fun H hO hS=>hsp w H a ns hlen hO hS) fun H e s'=>hCX w H s₁ e s'
end L2
/- THE LAST THEOREM (shape;LID,My.* are yours):
 My.Adr:a structure of the addresses that your layer names (classes,functions);My.Txt K t:a structure (Prop) of the equations over K;
 My.txt_mk:{K} {implicit addresses ..} (e1:nsIn K mainGlobals "law"=some (some (.ref f))) (e2:K.lookup f=some ⟨oc,od,.func (fnOf "law" "law" params body scope dV kV doc pm an cdv ct),sl⟩) (e3:codeIn K cdv "law"=true) .. :∃t,My.Txt K t
set_option maxRecDepth 100000 in
set_option maxHeartbeats 0 in
theorem PySem.Challenge.cw_LID_holds : PySem.Challenge.rw_LID.Holds := by
 w_on;o_law;k_head;(case hw=>w_witness2)
 k_fill
 refine L2.walk_of (l:=PySem.Challenge.rw_LID) (n:=63) (k:=40) (x:="script") (CX:=fun w=>..) (sp:=fun _=>My.sp_law) rfl (by decide) rfl ⟨rfl,by decide,by decide⟩ (fun w h Y=>PySem.W.kIn_of Y) ?F ?S ?C
 case F=>
  intro w mg fa h KX G hmg
  have T:∃t,My.Txt (L2.KOf KX) t:=by
   dsimp only[L2.KOf]                          -- K must stand as «<heap const> w.params» for k_is
   refine' My.txt_mk ?e1 ?e2 ?e3 ..
   (case e1=>PySem.W.k_is)                    -- in the order:a name->its address->its object->its parts
   (case e2=>PySem.W.k_is)
   ..
  obtain⟨t,T⟩:=T
  have e0:=hmg.symm.trans (PySem.W.mg_of KX G T.law)
  cases e0                                       -- fa is the law's own address
  exact⟨_,fun s u=>.of_eq rfl,fun base kb nb=>My.law_fn T kb nb⟩     -- if «.of_eq rfl» comes too early:refine' ⟨_,?b,fun base kb nb=>My.law_fn T kb nb⟩;exact fun s u=>.of_eq rfl
 case S=>exact fun w H a ns hl hO hS=>..
 case C=>exact ..
(the tactic k_is has no namespace:write k_is) -/
namespace L2
open PySem PySem.Spec PyProof.Rows
def aaY(s:Stmt)(j:Nat):Stmt:=match s with
 |.ClassDef _ _ _ body _ _ _ _ _ _ _=>body.getD j (.Pass ⟨0,0,0,0⟩)
 |_=>.Pass ⟨0,0,0,0⟩
def abB(s:Stmt):Arguments:=match s with
 |.FunctionDef _ a _ _ _ _ _ _ _ _=>a
 |_=>{posonlyargs:=[],args:=[],vararg:=none,kwonlyargs:=[],kw_defaults:=[],kwarg:=none,defaults:=[]}
def aaQ(s:Stmt):List Stmt:=match s with
 |.FunctionDef _ _ b _ _ _ _ _ _ _=>b
 |_=>[]
def aaC(s:Stmt):Scope:=match s with
 |.FunctionDef _ _ _ _ _ _ sc _ _ _=>sc
 |_=>{kind:=.function,names:=[],isGenerator:=false,isCoroutine:=false}
abbrev CX0:CXT:=fun _ _ _ _ _ _=>False
abbrev E0:XK:=fun _ _ _=>False
theorem aoJ{X:Cx}:afM CX0 X E0:=fun _ _ _ _ _ _ _ h=>h.elim
structure Fun(K:PySem.W.Frag)(x qual:Str)(st:Stmt)(f:Addr)(fd:FuncData):Prop where
 ex:∃(oc:Value) (od:Option Addr) (kV doc pm:Value) (an:Option Addr) (cdv ct:Value) (osl:Array (Option Value)),
  fd=PySem.W.fnOf x qual (abB st) (aaQ st) (aaC st) .none kV doc pm an cdv ct/\K.lookup f=some ⟨oc,od,.func fd,osl⟩/\PySem.W.codeIn K cdv qual=true
 kp:PySem.W.keepIn K (.ref f)=true
section
variable{P:Program}{w:World}{K:PySem.W.Frag}{mg:Str->Option Value}{base:Heap}
theorem Fun.ok{x qual:Str}{st:Stmt}{f:Addr}{fd:FuncData}{N ps:List Str}{k:Nat}{sp:Sp}(F:Fun K x qual st f fd)(S:FnScope N ps (aaC st))(len:∀vs H Q E,sp vs H Q E->vs.length=ps.length)
  (hbody:∀(cdv:Value) (A:Around) (outer:List Env) (s:Shared) (H:Hp) (vs:List V) (Q:VK) (E:XK),Room k (A.deeper (envOfC qual (aaC st) s.heap.objs.size f cdv))->sp vs H Q E->
   ∃t,PSs (aj7 CX0 P w K mg base N qual (aaC st) f cdv A outer s H E).nox (aaQ st) t/\t {nx:=fun _ H'=>Q .non H',rt:=Q} (start N vs) H):FnOk P w K mg base CX0 (k+1) f fd ps sp:=by
 obtain⟨oc,od,kV,doc,pm,an,cdv,ct,osl,rfl,lk,hcd⟩:=F.ex
 refine aEB lk hcd S len fun A outer s H vs Q E hr hsp=>?_
 obtain⟨t,h,q⟩:=hbody cdv A outer s H vs Q E hr hsp
 exact⟨t,h.nox,q⟩
theorem Fun.binds{x qual:Str}{st:Stmt}{f:Addr}{fd:FuncData}{ps:List Str}(F:Fun K x qual st f fd)
  (h:∀(kV doc pm:Value) (an:Option Addr) (cdv ct:Value) (us:List Value),us.length=ps.length->bindArgs (PySem.W.fnOf x qual (abB st) (aaQ st) (aaC st) .none kV doc pm an cdv ct) ⟨us,[]⟩=pure (ps.zip us)):Binds K fd ps []:=by
 obtain⟨oc,od,kV,doc,pm,an,cdv,ct,osl,rfl,lk,hcd⟩:=F.ex
 exact .all (h kV doc pm an cdv ct)
theorem aqY{x qual:Str}{st:Stmt}{f:Addr}{oc:Value}{od an:Option Addr}{osl:Array (Option Value)}{kV doc pm cdv ct:Value}(l:K.lookup f=some ⟨oc,od,.func (PySem.W.fnOf x qual (abB st) (aaQ st) (aaC st) .none kV doc pm an cdv ct),osl⟩)
  (c:PySem.W.codeIn K cdv qual=true) (k:PySem.W.keepIn K (.ref f)=true):Fun K x qual st f (PySem.W.fnOf x qual (abB st) (aaQ st) (aaC st) .none kV doc pm an cdv ct):=⟨⟨oc,od,kV,doc,pm,an,cdv,ct,osl,rfl,l,c⟩,k⟩
end
section
variable{X:Cx}
end
theorem aaU{A B:Prop}(h:B):if false=true then A else B:=by
 rw[if_neg Bool.false_ne_true]
 exact h
theorem aa8{A B:Prop}(h:A):if true=true then A else B:=by
 rw[if_pos rfl]
 exact h
theorem aLC{c A B:Prop}[Decidable c](h1:c->A)(h2:¬c->B):if c then A else B:=by
 by_cases h:c
 ·rw[if_pos h]
  exact h1 h
 ·rw[if_neg h]
  exact h2 h
def Same(H H':Hp):Prop:=∀b o,H b=some o->H' b=some o
theorem Same.refl(H:Hp):Same H H:=fun _ _ h=>h
theorem Same.trans{H H1 H2:Hp}(a:Same H H1)(b:Same H1 H2):Same H H2:=fun c o h=>b c o (a c o h)
theorem Same.free{H H':Hp}(e:Same H H'){l:Addr}(h:H' l=Option.none):H l=Option.none:=by
 cases q:H l with
 |none=>rfl
 |some o=>
  rw[e l o q] at h
  cases h
theorem Same.seq{K:PySem.W.Frag}{H H':Hp}{a:Addr}{xs:List V}(e:Same H H')(h:SqL K H a xs):SqL K H' a xs:=by
 rcases h with (h | ⟨o,h⟩) | h
 ·exact .inl (.inl (e _ _ h))
 ·exact .inl (.inr ⟨o,e _ _ h⟩)
 ·exact .inr h
section
variable{X:Cx}
theorem aq4:acM X (.builtin "isinstance") (fun xs H Q=>∃i:Int,xs=[.int i,.ty "int"]/\Q (.bl true) H):=by
 intro pins s σ H xs us Q I r h
 obtain⟨i,rfl,q⟩:=h
 obtain⟨u,w',rfl,⟨t,rfl⟩,r2⟩:=akD r
 cases r2
 exact PySem.IsiPair.int_int ⟨.bl true,H,I,rfl,q⟩
theorem aqW:acM X (.builtin "isinstance") (fun xs H Q=>∃i:Int,xs=[.int i,.ty "bool"]/\Q (.bl false) H):=by
 intro pins s σ H xs us Q I r h
 obtain⟨i,rfl,q⟩:=h
 obtain⟨u,w',rfl,⟨t,rfl⟩,r2⟩:=akD r
 cases r2
 exact PySem.IsiPair.int_bool ⟨.bl false,H,I.tok _,rfl,q⟩
end
structure Df(P:Program)(w:World)(K:PySem.W.Frag)(mg:Str->Option Value)(base:Heap)(x:Str)(k:Nat)(ps:List Str)(sp:Sp):Prop where
 ex:∃(f:Addr) (fd:FuncData),FnOk P w K mg base CX0 k f fd ps sp/\Binds K fd ps []/\mg x=some (.ref f)/\PySem.W.keepIn K (.ref f)=true
structure Fn(K:PySem.W.Frag)(mg:Str->Option Value)(x:Str)(st:Stmt)(ps:List Str):Prop where
 ex:∃(f:Addr) (fd:FuncData),Fun K x x st f fd/\Binds K fd ps []/\mg x=some (.ref f)
section
variable{P:Program}{w:World}{K:PySem.W.Frag}{mg:Str->Option Value}{base:Heap}{x:Str}{st:Stmt}{ps N:List Str}{k:Nat}{sp:Sp}
theorem Fn.df(F:Fn K mg x st ps)(S:FnScope N ps (aaC st))(len:∀vs H Q E,sp vs H Q E->vs.length=ps.length)
  (hbody:∀(f:Addr) (cdv:Value) (A:Around) (outer:List Env) (s:Shared) (H:Hp) (vs:List V) (Q:VK) (E:XK),Room k (A.deeper (envOfC x (aaC st) s.heap.objs.size f cdv))->sp vs H Q E->
   ∃t,PSs (aj7 CX0 P w K mg base N x (aaC st) f cdv A outer s H E).nox (aaQ st) t/\t {nx:=fun _ H'=>Q .non H',rt:=Q} (start N vs) H):Df P w K mg base x (k+1) ps sp:=by
 obtain⟨f,fd,F1,hb,hm⟩:=F.ex
 exact⟨⟨f,fd,F1.ok S len (hbody f),hb,hm,F1.kp⟩⟩
theorem aaJ{h:Heap}{f:Addr}{oc:Value}{od an:Option Addr}{osl:Array (Option Value)}{kV doc pm cdv ct:Value}(X:K.In h)(G:h.Ns mainGlobals mg)
  (a:PySem.W.nsIn K mainGlobals x=some (some (.ref f))) (l:K.lookup f=some ⟨oc,od,.func (PySem.W.fnOf x x (abB st) (aaQ st) (aaC st) .none kV doc pm an cdv ct),osl⟩)
  (c:PySem.W.codeIn K cdv x=true) (k:PySem.W.keepIn K (.ref f)=true)
  (hb:∀(kV doc pm:Value) (an:Option Addr) (cdv ct:Value) (us:List Value),us.length=ps.length->bindArgs (PySem.W.fnOf x x (abB st) (aaQ st) (aaC st) .none kV doc pm an cdv ct) ⟨us,[]⟩=pure (ps.zip us)):Fn K mg x st ps:=by
 have F:=aqY (st:=st) l c k
 exact⟨⟨f,_,F,F.binds (ps:=ps) hb,PySem.W.mg_of X G a⟩⟩
end
section
variable{X:Cx}
theorem au5{x:Str}{k k':Nat}{ps:List Str}{sp:Sp}{e:Expr}{es:List Expr}{t:TA}{p pos:Pos}(D:Df X.prog X.w X.K X.mg X.base x k ps sp)(hr:Room k' X.A)(ha:PA X (e::es) t)(hk:k<=k':=by decide)(hg:Gl X x:=by rfl)
  (hdb:(x==("__debug__":Str))=false:=by decide) (he:starEach (e::es) X.env=(false,eval e X.env)::starEach es X.env:=by rfl) (hpl:(backTo pos (starEach es X.env)).any (·.1)=false:=by rfl):
  PE X (.Call (.Name x p) (e::es) [] pos) (ar6 sp [] E0 t):=by
 obtain⟨f,fd,F,hb,hm,kp⟩:=D.ex
 exact aAF F (hr.mono hk) hg hm kp hb .nil aoJ ha hdb he hpl
end
theorem aaB{H:Hp}{p:Addr}(h:H p=none)(o:HO):Same H (upd H p o):=fun b u q=>by rw[aaG (aaK q h)];exact q
theorem int_eq{a b:Int}:(V.int a=V.int b)↔a=b:=⟨fun h=>V.int.inj h,fun h=>by rw[h]⟩
theorem ifI{a b:Int}{A B:Prop}(h1:a=b->A)(h2:¬a=b->B):if decide (V.int a=V.int b)=true then A else B:=
 aLC (fun c=>h1 (int_eq.mp (of_decide_eq_true c))) (fun c=>h2 fun e=>c (decide_eq_true (int_eq.mpr e)))
theorem aLO{a b:Int}{A B:Prop}(h1:¬a=b->A)(h2:a=b->B):if (!decide (V.int a=V.int b))=true then A else B:=by
 by_cases e:a=b
 ·rw[decide_eq_true (int_eq.mpr e)];exact aaU (h2 e)
 ·rw[decide_eq_false fun q=>e (int_eq.mp q)];exact aa8 (h1 e)
theorem ifD{c:Prop}[Decidable c]{A B:Prop}(h1:c->A)(h2:¬c->B):if decide c=true then A else B:=
 aLC (fun q=>h1 (of_decide_eq_true q)) (fun q=>h2 fun e=>q (decide_eq_true e))
theorem ifNe{a b:Int}{A B:Prop}(e:a=b)(h:B):if (!decide (V.int a=V.int b))=true then A else B:=by
 rw[decide_eq_true (int_eq.mpr e)];exact aaU h
def an6:Expr->Option Int
 |.Constant (.int i) _ _=>some i
 |_=>none
def aDN(is:List Int):TA:=fun _ H Q=>Q (is.map V.int) H
theorem ar0{X:Cx}:∀{es:List Expr} (is:List Int),es.map an6=is.map some->PA X es (aDN is)
 |[],[],_=>ad0
 |[],_::_,h=>by cases h
 |_::_,[],h=>by cases h
 |e::es,i::is,h=>by
  have h1:an6 e=some i:=(List.cons.inj h).1
  have h2:es.map an6=is.map some:=(List.cons.inj h).2
  obtain⟨j,pos,rfl⟩:∃j pos,e=.Constant (.int i) j pos:=by
   unfold an6 at h1
   split at h1
   ·cases h1
    exact⟨_,_,rfl⟩
   ·cases h1
  exact acN avJ (ar0 is h2)
structure Clos(X:Cx)(scope:Scope)(cl:List (Str×Addr)):Prop where
 is:closureFor scope X.env=pure cl
 sub:∀y c,cl.lookup y=some c->X.env.cells.lookup y=some c
 has:∀y,scope.names.lookup y=some .free->∃c,cl.lookup y=some c
 nocell:∀y∈scope.names,y.2≠ .cell
 kind:scope.kind=.function
 names:∀y∈scope.names,y.2=.local->scope.names.lookup y.1=some .local
def aaM(X:Cx)(N:List Str)(scope:Scope)(cl:List (Str×Addr))(C:Addr)(ex:List Addr)(pins:List (Addr×Obj))(s:Shared)(H:Hp):Cx:=
 {X with N:=N,s₀:=s,H₀:=H,env:=compEnvC scope cl C X.env,outer:=X.stack,stack:=X.stack,ex:=ex,fn:=fun _=>false,pn:=X.pn++pins,xe:=fun _ _=>False}
def aaV(js:List Nat)(σ:St):St:=js.map fun j=>(σ[j]?).getD none
def asO(ifs:List Expr)(env:Env):Sem Bool:=
 forIn ifs true fun c r=>if r=true then (do let ok ←isTrue c env (eval c env);pure (ForInStep.yield ok)) else pure (ForInStep.yield r)
def PF(X:Cx)(ifs:List Expr)(t:TT):Prop:=
 ∀(pins:List (Addr×Obj)) (s:Shared) (σ:St) (H:Hp) (Q:Bool->Hp->Prop),Inv X pins σ H s->t σ H Q->
  wpAny (model X.prog X.w) X.A (asO ifs X.env) (TP X pins σ Q) X.xe s
def aNN:TT:=fun _ H Q=>Q true H
theorem aJM{X:Cx}:PF X [] aNN:=fun _ _ _ H _ I h=>wpAny_tests_nil ⟨H,I,h⟩
theorem aIH{X:Cx}{c:Expr}{t:TT}(h:PT X c t):PF X [c] t:=fun pins s σ H Q I q=>wpAny_tests_one (h pins s σ H Q I q)
def asJ(J:It)(js:List Nat)(σ:St)(tt:TT)(te:TE)(Q:VK)(H1:Hp):Prop:=∀D,H1 D=none->∃W:Nat->Nat->Hp->Prop,(∃m,W 0 m (upd H1 D (.lst [])))/\∀i m H2,W i m H2->
 (J.stop i H2/\Q (.ref D) H2)∨(J.go i H2/\∀v H3,J.yld i H2 v H3->tt (some v::aaV js σ) H3 fun b H4=>if b=true then
  te (some v::aaV js σ) H4 fun y H5=>∃ys,H5 D=some (.lst ys)/\ys.length<sizeLine/\∃m',m'<m/\W (i+1) m' (upd H5 D (.lst (ys++[y])))
  else ∃m',m'<m/\W (i+1) m' H4)
def aw7(wi:TI)(js:List Nat)(tt:TT)(te:TE):TE:=fun σ H Q=>wi σ H fun J H1=>asJ J js σ tt te Q H1
def amG(env:Env)(n:Str)(k:NameKind):NameKind:=if (k==NameKind.free&&env.scope.kind== .function&&env.kindOf n==some .cell) then .cell else k
theorem aAT{env:Env}{n:Str}{k:NameKind}:(if (k==NameKind.free&&env.scope.kind== .function&&env.kindOf n==some .cell) then (n,NameKind.cell) else (n,k))=(n,amG env n k):=by
 unfold amG
 split<;>rfl
theorem aeF{env:Env}:∀(names:List (Str×NameKind)) (x:Str),(relabel {kind:=.function,names:=names,isGenerator:=false,isCoroutine:=false} env).names.lookup x=(names.lookup x).map (amG env x)
 |[],_=>rfl
 |(n,k)::r,x=>by
  have ih:=aeF (env:=env) r x
  unfold relabel at ih ⊢
  dsimp only at ih ⊢
  rw[List.map_cons]
  dsimp only
  rw[aAT,List.lookup_cons,List.lookup_cons,ih]
  cases hx:x==n with
  |true=>
   have e:x=n:=by simpa using hx
   rw[e]
   rfl
  |false=>rfl
theorem ac5{env:Env}(scope:Scope)(x:Str):(relabel scope env).names.lookup x=(scope.names.lookup x).map (amG env x):=aeF scope.names x
theorem alC{env:Env}{x:Str}{o:Option NameKind}(hc:o≠some .cell)(h:o.map (amG env x)=some .cell∨o.map (amG env x)=some .free):o=some .free:=by
 cases o with
 |none=>rcases h with h | h<;>cases h
 |some k=>
  by_cases e:k=.free
  ·rw[e]
  ·have z:amG env x k=k:=by
    unfold amG
    have e':(k==NameKind.free)=false:=by simpa using e
    rw[e']
    rfl
   rw[Option.map_some,z] at h
   rcases h with h | h
   ·exact absurd h hc
   ·exact h
theorem af0{env:Env}{scope:Scope}{x:Str}(h:scope.names.lookup x=some .free):(relabel scope env).names.lookup x=some .cell∨(relabel scope env).names.lookup x=some .free:=by
 rw[ac5,h,Option.map_some]
 unfold amG
 split
 ·exact .inl rfl
 ·exact .inr rfl
section
variable{X:Cx}{elt iter:Expr}{x:Str}{px pos:Pos}{ifs:List Expr}{scope:Scope}{cl:List (Str×Addr)}{N':List Str}{js:List Nat}{tt:TT}{te:TE}
theorem aqZ{pins:List (Addr×Obj)}{σ:St}{H:Hp}{s s4:Shared}{fp:List Addr}{C:Addr}{m4:Str->Option Value}(hcl:Clos X scope cl)(hN:js.map (fun j=>X.N[j]?)=N'.map some)
  (hk:N'.all (fun y=>(X.env.kindOf y==some .cell)||(X.env.kindOf y==some .free))=true) (hf:N'.all (fun y=>scope.names.lookup y==some .free)=true)
  (I:Inv X pins σ H s) (hfp:∀b∈fp,adE X pins H b/\b<s.heap.objs.size) (hC:C=s.heap.objs.size) (ho:s4.os=s.os) (hg:s4.gens=s.gens) (hkeep:∀b o,s.heap.get? b=some o->s4.heap.get? b=some o) (hn:s4.heap.Ns C m4):
  Inv (aaM X (x::N') scope cl C fp pins s H) [] (none::aaV js σ) H s4:=by
 have hne:∀b o,s.heap.get? b=some o->b≠C:=fun b o e=>by rw[hC];exact Nat.ne_of_lt (Heap.lt_size e)
 refine⟨⟨I.ok.mod,hcl.kind,I.ok.glob,I.ok.blt,Nat.le_of_eq hC.symm,fun y z c h1 h2=>I.ok.inj y z c (hcl.sub y c h1) (hcl.sub z c h2),fun y hy=>hcl.has y (alC (fun z=>hcl.nocell _ (PySem.mem_of_lookup z) rfl) (by rw[←ac5];exact hy)),fun y c h _=>(nomatch h),I.ok.hd,I.ok.frames,.inl rfl,fun b hb=>⟨?_,fun y c e=>(hfp b hb).1.2.2.2.2.1 y c (hcl.sub y c e)⟩,
  I.bs,Nat.le_trans I.ok.bsz I.sz,fun b o e hb=>?_,fun b hb hz=>?_,I.stack,I.stkFree⟩,ho,by rw[hg];exact I.bare,Un.kept hkeep,⟨m4,hn,fun i y v h1 h2 h3=>?_⟩,fun y c e=>?_,?_,fun y c e=>I.freeC y c (hcl.sub y c e),fun p hp=>?_,I.hok.kept hkeep,?_⟩
 ·rw[hC];exact Nat.ne_of_lt (hfp b hb).2
 ·rcases (hfp b hb).1.2.2.2.1 with z | z
  ·exact I.ok.noex b o e z
  ·exact absurd (Nat.lt_of_lt_of_le (Heap.lt_size e) (Nat.le_trans I.ok.bsz z)) (Nat.lt_irrefl _)
 ·rcases List.mem_cons.mp (I.stkSub b hz) with z | z
  ·exact (hfp b hb).1.2.1 z
  ·exact (hfp b hb).1.2.2.1 z
 ·match i,h1,h2 with
  |0,_,h2=>exact nomatch h2
  |i+1,h1,h2=>
   have h1:N'[i]? =some y:=h1
   have h2:(aaV js σ)[i]? =some (some v):=h2
   have hy:y∈N':=List.mem_of_getElem? h1
   have q:(js.map (fun j=>X.N[j]?))[i]? =some (some y):=by rw[hN,List.getElem?_map,h1];rfl
   rw[List.getElem?_map] at q
   cases ej:js[i]? with
   |none=>rw[ej] at q;cases q
   |some j=>
    rw[ej] at q
    have q:X.N[j]? =some y:=Option.some.inj q
    unfold aaV at h2
    rw[List.getElem?_map,ej] at h2
    have h2:(σ[j]?).getD none=some v:=Option.some.inj h2
    have h2:σ[j]? =some (some v):=by
     cases e:σ[j]? with
     |none=>rw[e] at h2;cases h2
     |some o=>rw[e] at h2;exact congrArg some h2
    have kk:=List.all_eq_true.mp hk y hy
    have kk:X.env.kindOf y=some .cell∨X.env.kindOf y=some .free:=by simpa using kk
    have ff:=List.all_eq_true.mp hf y hy
    have ff:scope.names.lookup y=some .free:=by simpa using ff
    obtain⟨m,_,hl⟩:=I.loc
    obtain⟨u,r,l⟩:=hl j y v q h2 (by rcases kk with z | z;exact .inr (.inl z);exact .inr (.inr z))
    refine⟨u,r,.inr ⟨af0 ff,?_⟩⟩
    obtain⟨c,hc⟩:=hcl.has y ff
    rcases l with ⟨z,_⟩ | ⟨_,c',e',cell⟩
    ·rcases kk with k | k<;>(rw[k] at z;cases z)
    ·rw[hcl.sub y c hc] at e'
     cases e'
     exact⟨c,hc,cell.keeps hkeep⟩
 ·obtain⟨v,q⟩:=I.cell y c (hcl.sub y c e)
  exact⟨v,q.keeps hkeep⟩
 ·show H C=none
  rw[hC]
  exact I.hok.fresh (Nat.le_refl _)
 ·have hp:p∈X.pn++pins:=by
   have hp:p∈(X.pn++pins)++[]:=hp
   rwa [List.append_nil] at hp
  obtain⟨e,n,ne,nf,d⟩:=I.pin p hp
  refine⟨hkeep _ _ e,n,hne _ _ e,fun z=>?_,d⟩
  rcases List.mem_cons.mp (I.stkSub p.1 z) with z | z
  ·exact ne z
  ·exact nf z
 ·show (aaV js σ).length+1=N'.length+1
  have q:=congrArg List.length hN
  rw[List.length_map,List.length_map] at q
  unfold aaV
  rw[List.length_map,q]
end
theorem ajD{prog:Program}{w:World}{A:Around}{R:Result->Shared->Prop}{s:Shared}{elt tg iter:Expr}{ifs:List Expr}{scope:Scope}{pos:Pos}{it acc:Value}{env:Env}{EN:Value->Shared->Prop}
  (hEN:EN=notedBy (model prog w) A env fun e s'=>R (.error e) s') (B:Nat->Shared->Prop)
  (turn:∀n s,B n s->wpAny (model prog w) A (pyNext it) (fun r s₁=>match r with
   |none=>R (.ok .next) s₁
   |some v=>wpAny (model prog w) A (letOwnedTupleGo tg it v) (fun _ s₂=>wpAny (model prog w) A (assign tg env v) (fun _ s₃=>
     wpAny (model prog w) A (asO ifs env) (fun ok s₄=>
      if ok=true then wpAny (model prog w) A (eval elt env) (fun z s₅=>wpAny (model prog w) A (call (.builtin "list.append") [acc,z]) (fun _ s₆=>∃m,m<n/\B m s₆) EN s₅) EN s₄
      else ∃m,m<n/\B m s₄) EN s₃) EN s₂) EN s₁) EN s) (n:Nat) (h:B n s):
  codeAny (model prog w) A (.compLoop (.ListComp elt [⟨tg,iter,ifs,0⟩] scope pos) 0 it acc env) R s:=by
 subst hEN
 refine codeAny_loop rfl B (fun n s hI=>?_) n h
 refine wpAny_noted (m:=compTurn (.ListComp elt [⟨tg,iter,ifs,0⟩] scope pos) 0 it acc env) ?_
 rw[compTurn_list]
 refine wpAny_bind (wpAny_standAt (wpAny_bind (wpAny_mono (turn n s hI) (fun r s₁ h₁=>?_) fun _ _ z=>z)))
 cases r with
 |none=>exact wpAny_pure h₁
 |some v=>
  refine wpAny_bind (wpAny_mono h₁ (fun _ s₂ h₂=>?_) fun _ _ z=>z)
  refine wpAny_bind (wpAny_mono h₂ (fun _ s₃ h₃=>?_) fun _ _ z=>z)
  refine wpAny_bind (wpAny_mono h₃ (fun ok s₄ h₄=>?_) fun _ _ z=>z)
  cases ok with
  |false=>exact wpAny_pure ⟨rfl,h₄⟩
  |true=>
   refine wpAny_bind (wpAny_bind (wpAny_mono h₄ (fun z s₅ h₅=>?_) fun _ _ q=>q))
   exact wpAny_bind (wpAny_mono h₅ (fun _ s₆ h₆=>wpAny_pure (wpAny_pure ⟨rfl,h₆⟩)) fun _ _ q=>q)
section
variable{X:Cx}{elt iter:Expr}{x:Str}{px pos:Pos}{ifs:List Expr}{scope:Scope}{cl:List (Str×Addr)}{N':List Str}{js:List Nat}{tt:TT}{te:TE}
theorem ax8{pins:List (Addr×Obj)}{σ σ':St}{H H':Hp}{s s':Shared}{fp:List Addr}{C:Addr}(I:Inv X pins σ H s)(hfp:∀b∈fp,adE X pins H b)(J:Inv (aaM X (x::N') scope cl C fp pins s H) [] σ' H' s'):Inv X pins σ H' s':=
 I.call' (ch:=fp) J.os J.base J.hok J.bare fun b hb=>⟨(hfp b hb).2.2.2.1,(hfp b hb).2.1,(hfp b hb).2.2.2.2.1,(hfp b hb).2.2.2.2.2⟩
theorem akE{pins:List (Addr×Obj)}{σ:St}{H:Hp}{s:Shared}{Q:VK}{RR:Value->Addr->Result->Shared->Prop}{J:It}{fp:List Addr}{it:Addr}{tn:Nat->Heap->Prop}
  (hcl:Clos X scope cl) (hx:scope.names.lookup x=some .local) (hnd:(x::N').Nodup) (hN:js.map (fun j=>X.N[j]?)=N'.map some)
  (hk:N'.all (fun y=>(X.env.kindOf y==some .cell)||(X.env.kindOf y==some .free))=true) (hf:N'.all (fun y=>scope.names.lookup y==some .free)=true) (hc:X.calm=true)
  (ht:∀(C:Addr) (ex:List Addr) (pins:List (Addr×Obj)) (s:Shared) (H:Hp),PF (aaM X (x::N') scope cl C ex pins s H) ifs tt)
  (he:∀(C:Addr) (ex:List Addr) (pins:List (Addr×Obj)) (s:Shared) (H:Hp),PE (aaM X (x::N') scope cl C ex pins s H) elt te)
  (I:Inv X pins σ H s) (T:Turn X.prog X.w X.K (.Name x px) J fp it tn) (st:tn 0 s.heap) (hfp:∀b∈fp,adE X pins H b)
  (q:∀D,H D=none->∃W:Nat->Nat->Hp->Prop,(∃m,W 0 m (upd H D (.lst [])))/\∀i m H2,W i m H2->
   (J.stop i H2/\Q (.ref D) H2)∨(J.go i H2/\∀v H3,J.yld i H2 v H3->tt (some v::aaV js σ) H3 fun b H4=>if b=true then
    te (some v::aaV js σ) H4 fun y H5=>∃ys,H5 D=some (.lst ys)/\ys.length<sizeLine/\∃m',m'<m/\W (i+1) m' (upd H5 D (.lst (ys++[y])))
    else ∃m',m'<m/\W (i+1) m' H4))
  (hRR:∀(D C:Addr) (s':Shared) (H':Hp) (m:Str->Option Value),Inv X pins σ H' s'->H' C=none->C≠X.env.locals->X.s₀.heap.objs.size<=C->(∀y c,X.env.cells.lookup y=some c->c≠C)->(∀p∈X.pn++pins,p.1≠C)->s'.heap.Ns C m->Q (.ref D) H'->RR (.ref D) C (.ok .next) s'):
  wpAny (model X.prog X.w) X.A (newList []) (fun acc s₃=>wpAny (model X.prog X.w) X.A (newFunctionEnv scope X.env.globals cl [] X.env.qual none .none (some X.env)) (fun cenv s₄=>
   codeAny (model X.prog X.w) X.A (.compStart (.ListComp elt [⟨.Name x px,iter,ifs,0⟩] scope pos) 0 (.ref it) acc {cenv with scope:=relabel scope X.env}) (RR acc cenv.locals) s₄) X.xe s₃) X.xe s:=by
 refine wpAny_newObj_type ?_
 have hD:H s.heap.objs.size=none:=I.hok.fresh (Nat.le_refl _)
 have I3:Inv X pins σ (upd H s.heap.objs.size (.lst [])) {s with heap:=s.heap.push {cls:=.type "list",dict:=none,data:=.seq ([]:List Value).toArray} }:=I.lnew (its:=[]) (t':=s.toks) .nil (Nat.zero_le _)
 have hfp3:∀b∈fp,adE X pins (upd H s.heap.objs.size (.lst [])) b/\b<(s.heap.push {cls:=.type "list",dict:=none,data:=.seq ([]:List Value).toArray}).objs.size:=fun b hb=>by
  obtain⟨o,ho,_⟩:=T.obj 0 _ st b hb
  have hlt:=Heap.lt_size ho
  obtain⟨f0,f1⟩:=hfp b hb
  exact⟨⟨by rw[aaG (Nat.ne_of_lt hlt)];exact f0,f1⟩,by rw[Heap.size_push];exact Nat.lt_succ_of_lt hlt⟩
 have st3:tn 0 (s.heap.push {cls:=.type "list",dict:=none,data:=.seq ([]:List Value).toArray}):=T.keep _ _ _ st fun b _ o e=>Heap.get?_push_of_some _ e
 obtain⟨W,⟨m0,w0⟩,turn⟩:=q s.heap.objs.size hD
 generalize hs3:({s with heap:=s.heap.push {cls:=.type "list",dict:=none,data:=.seq ([]:List Value).toArray} }:Shared)=s3 at I3 ⊢
 have hh3:s.heap.push {cls:=.type "list",dict:=none,data:=.seq ([]:List Value).toArray}=s3.heap:=by rw[←hs3]
 rw[hh3] at hfp3 st3
 generalize s.heap.objs.size=D at I3 hfp3 w0 turn hD ⊢
 generalize upd H D (.lst [])=H3 at I3 hfp3 w0
 refine wpAny_newFunctionEnv hcl.nocell (by intro y hy;simp at hy) (fun h₁ hns₁ hsb₁=>?_) hcl.kind
 have hkeep:∀b o,s3.heap.get? b=some o->h₁.get? b=some o:=fun b o e=>hsb₁.extBut b o (Nat.ne_of_lt (Heap.lt_size e)) (Heap.get?_push_of_some _ e)
 have J4:Inv (aaM X (x::N') scope cl s3.heap.objs.size fp pins s3 H3) [] (none::aaV js σ) H3 {s3 with heap:=h₁,toks:=s3.toks+([]:List (Str×Value)).length}:=
  aqZ hcl hN hk hf I3 hfp3 rfl rfl rfl hkeep hns₁
 have st4:tn 0 h₁:=T.keep _ _ _ st3 fun b _ o e=>hkeep b o e
 have cell':∀{s':Shared} {σ':St} {H':Hp},Inv (aaM X (x::N') scope cl s3.heap.objs.size fp pins s3 H3) [] σ' H' s'->Q (.ref D) H'->RR (.ref D) s3.heap.objs.size (.ok .next) s':=fun {s' σ' H'} J hq=>by
  obtain⟨m,hn,_⟩:=J.loc
  refine hRR D _ s' H' m (ax8 I3 (fun b hb=>(hfp3 b hb).1) J) J.free (Nat.ne_of_gt I3.lt) I3.sz (fun y c e z=>?_) (fun p hp z=>?_) hn hq
  ·obtain⟨v,k⟩:=I3.cell y c e
   exact absurd k.lt (by rw[z];exact Nat.lt_irrefl _)
  ·exact absurd (Heap.lt_size (I3.pin p hp).1) (by rw[z];exact Nat.lt_irrefl _)
 have fpX:∀{H':Hp},(∀b∈fp,H' b=none)->∀b∈fp,adE (aaM X (x::N') scope cl s3.heap.objs.size fp pins s3 H3) [] H' b:=fun {H'} hn b hb=>by
  obtain⟨⟨f0,f1,f2,f3,f4,f5⟩,flt⟩:=hfp3 b hb
  refine⟨hn b hb,Nat.ne_of_lt flt,fun z=>?_,.inl hb,fun y c e=>f4 y c (hcl.sub y c e),fun p hp=>?_⟩
  ·rcases List.mem_cons.mp (I3.stkSub b z) with z | z
   ·exact f1 z
   ·exact f2 z
  ·have hp:p∈(X.pn++pins)++[]:=hp
   rw[List.append_nil] at hp
   exact f5 p hp
 have loop:∀s₄:Shared,s₄={s3 with heap:=h₁,toks:=s3.toks+([]:List (Str×Value)).length}->
   codeAny (model X.prog X.w) X.A (.compLoop (.ListComp elt [⟨.Name x px,iter,ifs,0⟩] scope pos) 0 (.ref it) (.ref D) (compEnvC scope cl s3.heap.objs.size X.env)) (RR (.ref D) s3.heap.objs.size) s₄:=by
  rintro s₄ rfl
  refine ajD rfl (fun n s'=>∃i σ0 H',Inv (aaM X (x::N') scope cl s3.heap.objs.size fp pins s3 H3) [] (σ0::aaV js σ) H' s'/\tn i s'.heap/\(∀b∈fp,H' b=none)/\W i n H') ?_ m0 ⟨0,none,H3,J4,st4,fun b hb=>(hfp3 b hb).1.1,w0⟩
  rintro n s5 ⟨i,σ0,H5,J5,st5,fr5,w5⟩
  rcases turn i n H5 w5 with ⟨stop,qn⟩ | ⟨go,step⟩
  ·refine wpAny_mono (T.done (aaM X (x::N') scope cl s3.heap.objs.size fp pins s3 H3) rfl rfl rfl hc i [] s5 _ H5 (fun _ _=>False) J5 (fpX fr5) st5 stop) (fun r s6 ⟨hr,J6⟩=>?_) fun _ _ z=>z.elim
   subst hr
   exact cell' J6 qn
  ·refine wpAny_mono (T.item (aaM X (x::N') scope cl s3.heap.objs.size fp pins s3 H3) rfl rfl rfl hc i [] s5 _ H5 (fun _ _=>False) J5 (fpX fr5) st5 go) (fun r s6 ⟨u,hr,h6⟩=>?_) fun _ _ z=>z.elim
   subst hr
   refine wpAny_mono h6 (fun _ s6' h6'=>?_) fun _ _ z=>z.elim
   obtain⟨v,H6,J6,r6,y6,st6,fr6⟩:=h6'
   clear h6
   have J6':=J6.pinned (fpX fr6) (T.obj _ _ st6)
   show wpAny _ _ (assign (.Name x px) _ u) _ _ _
   refine wpAny_assign_Name (akJ (i:=0) J6' hnd rfl (.inl (lookup_relabel_local hx)) r6 (fun s7 J7=>?_) (.inr (lookup_relabel_local hx)))
   have J7:Inv (aaM X (x::N') scope cl s3.heap.objs.size fp pins s3 H3) ([]++afJ fp s6'.heap) (some v::aaV js σ) H6 s7:=J7
   have again:∀{σ8:St} {H8:Hp} {s8:Shared},Inv (aaM X (x::N') scope cl s3.heap.objs.size fp pins s3 H3) ([]++afJ fp s6'.heap) σ8 H8 s8->tn (i+1) s8.heap/\∀b∈fp,H8 b=none:=fun {σ8 H8 s8} J8=>by
    refine⟨T.keep _ _ _ st6 fun b hb o e=>(J8.pin (b,o) (List.mem_append_right _ (List.mem_append_right _ (abO hb e)))).1,fun b hb=>?_⟩
    obtain⟨o,e,d⟩:=T.obj _ _ st6 b hb
    exact (J8.pin (b,o) (List.mem_append_right _ (List.mem_append_right _ (abO hb e)))).2.1
   refine wpAny_mono (ht _ _ _ _ _ _ s7 _ H6 _ J7 (step v H6 y6)) (fun ok s8 ⟨H8,J8,q8⟩=>?_) fun _ _ z=>z.elim
   cases ok with
   |false=>
    obtain⟨m',hm,w8⟩:=(show ∃m',m'<n/\W (i+1) m' H8 from q8)
    obtain⟨a1,a2⟩:=again J8
    exact⟨m',hm,i+1,some v,H8,J8.unpinned,a1,a2,w8⟩
   |true=>
    refine wpAny_mono (he _ _ _ _ _ _ s8 _ H8 _ J8 q8) (fun y s9 ⟨z,H9,J9,r9,ys,hys,hlen,m',hm,w9⟩=>?_) fun _ _ z=>z.elim
    refine wpAny_mono (agO (X:=aaM X (x::N') scope cl s3.heap.objs.size fp pins s3 H3) _ s9 _ H9 (.ref D) [z] (.ref D) [y] (fun _ H10=>H10=upd H9 D (.lst (ys++[z]))) J9 rfl (.cons r9 .nil) ⟨D,ys,z,rfl,rfl,hys,hlen,rfl⟩) (fun _ s10 ⟨_,H10,J10,_,e10⟩=>?_) fun _ _ z=>z.elim
    subst e10
    obtain⟨a1,a2⟩:=again J10
    exact⟨m',hm,i+1,some v,_,J10.unpinned,a1,a2,w9⟩
 exact codeAny_compStart_list (loop _ rfl) (T.self _ 0 _ _ _ st4 (loop _ rfl))
theorem aA0{wi:TI}(hcl:Clos X scope cl)(hx:scope.names.lookup x=some .local)(hnd:(x::N').Nodup)(hN:js.map (fun j=>X.N[j]?)=N'.map some)
  (hk:N'.all (fun y=>(X.env.kindOf y==some .cell)||(X.env.kindOf y==some .free))=true) (hf:N'.all (fun y=>scope.names.lookup y==some .free)=true) (hc:X.calm=true)
  (hi:PI X (.Name x px) iter wi)
  (ht:∀(C:Addr) (ex:List Addr) (pins:List (Addr×Obj)) (s:Shared) (H:Hp),PF (aaM X (x::N') scope cl C ex pins s H) ifs tt)
  (he:∀(C:Addr) (ex:List Addr) (pins:List (Addr×Obj)) (s:Shared) (H:Hp),PE (aaM X (x::N') scope cl C ex pins s H) elt te)
  (hs:∀x,foldedSetIterable iter X.env x=pure x:=by intro _;rfl):
  PE X (.ListComp elt [⟨.Name x px,iter,ifs,0⟩] scope pos) (aw7 wi js tt te):=by
 intro pins s σ H Q I h
 rw[eval_ListComp]
 refine wpAny_comprehension_free (use:=none) rfl hs hcl.is hcl.kind hcl.names (thn (hi pins s σ H _ I h) fun xv s₁ h₁=>thn h₁ fun itv s₂ h₂=>?_)
 obtain⟨it,fp,tn,J,H2,rfl,I2,T,st,hfp,q⟩:=h₂
 refine akE (RR:=fun acc C=>compPost (model X.prog X.w) X.A X.xe none (EP X pins σ Q) acc C) hcl hx hnd hN hk hf hc ht he I2 T st hfp q ?_
 intro D C s' H' m I' hC0 hCL hCs hCc hCp hn hq
 refine⟨m,hn,fun h' sb=>⟨.ref D,H',?_,rfl,hq⟩⟩
 exact I'.turned (t':=s'.toks) (fun b o hb e=>(sb.2 b hb).trans e) hC0 hCL (.inr hCs) hCc hCp
end
theorem afH(env:Env):∀(names:List (Str×NameKind)) (acc:List (Str×Addr)),names.all (fun y=>y.2 != .free||(env.cells.lookup y.1).isSome)=true->
  ∃cl:List (Str×Addr),(forIn (m:=Sem) names acc fun x r=>(do
   let (name,kind):=x
   if kind== .free then do let c ←cellOf env name;pure (ForInStep.yield ((name,c)::r)) else pure (ForInStep.yield r)))=(pure cl:Sem _)/\
   (∀y c,cl.lookup y=some c->env.cells.lookup y=some c∨acc.lookup y=some c)/\(∀y,(∃c,acc.lookup y=some c)->∃c,cl.lookup y=some c)/\(∀y,(y,NameKind.free)∈names->∃c,cl.lookup y=some c)
 |[],acc,_=>⟨acc,rfl,fun _ _ h=>.inr h,fun _ h=>h,fun _ h=>nomatch h⟩
 |(n,k)::r,acc,h=>by
  rw[List.all_cons,Bool.and_eq_true] at h
  by_cases hk:k=.free
  ·subst hk
   have h1:(env.cells.lookup n).isSome=true:=by simpa using h.1
   obtain⟨c,hc⟩:=Option.isSome_iff_exists.mp h1
   obtain⟨cl,e,p1,p2,p3⟩:=afH env r ((n,c)::acc) h.2
   refine⟨cl,?_,fun y c' hy=>?_,fun y hy=>?_,fun y hy=>?_⟩
   ·rw[←e]
    have q:cellOf env n=(pure c:Sem Addr):=by unfold cellOf;rw[hc]
    rw[List.forIn_cons]
    dsimp only
    rw[if_pos (show (NameKind.free==NameKind.free)=true from rfl),q]
    rfl
   ·rcases p1 y c' hy with z | z
    ·exact .inl z
    ·rw[List.lookup_cons] at z
     cases hyn:y==n with
     |true=>
      rw[hyn] at z
      have e1:y=n:=by simpa using hyn
      have e2:c=c':=by simpa using z
      rw[e1,←e2]
      exact .inl hc
     |false=>
      rw[hyn] at z
      exact .inr z
   ·refine p2 y ?_
    rw[List.lookup_cons]
    cases hyn:y==n with
    |true=>exact⟨c,rfl⟩
    |false=>exact hy
   ·rcases List.mem_cons.mp hy with z | z
    ·refine p2 y ⟨c,?_⟩
     have e1:y=n:=(Prod.mk.inj z).1
     rw[e1,List.lookup_cons]
     simp
    ·exact p3 y z
  ·obtain⟨cl,e,p1,p2,p3⟩:=afH env r acc h.2
   have hk':(k==NameKind.free)=false:=by simpa using hk
   refine⟨cl,?_,p1,p2,fun y hy=>?_⟩
   ·rw[←e]
    rw[List.forIn_cons]
    dsimp only
    rw[if_neg (by rw[hk'];exact Bool.false_ne_true)]
    rfl
   ·rcases List.mem_cons.mp hy with z | z
    ·exact absurd (Prod.mk.inj z).2.symm hk
    ·exact p3 y z
theorem an1{X:Cx}{scope:Scope}(h:scope.names.all (fun y=>y.2 != .free||(X.env.cells.lookup y.1).isSome)=true)(h2:scope.names.all (fun y=>y.2 != .cell)=true)(h3:scope.kind=.function)
  (h4:scope.names.all (fun y=>y.2 != .local||scope.names.lookup y.1==some .local)=true):∃cl,Clos X scope cl:=by
 obtain⟨cl,e,p1,p2,p3⟩:=afH X.env scope.names [] h
 refine⟨cl,?_,fun y c hy=>?_,fun y hy=>p3 y (PySem.mem_of_lookup hy),fun y hy=>by simpa using List.all_eq_true.mp h2 y hy,h3,fun y hy hl=>?_⟩
 ·unfold closureFor
  exact Eq.trans (congrArg (fun t:Sem (List (Str×Addr))=>t >>=fun r=>(pure r:Sem (List (Str×Addr)))) e) rfl
 ·rcases p1 y c hy with z | z
  ·exact z
  ·simp at z
 ·have q:=List.all_eq_true.mp h4 y hy
  simpa [hl] using q
section
variable{js:List Nat}{σ:St}{tt:TT}{te:TE}{Q:VK}{H1:Hp}
theorem aa7{lo:Int}{n:Nat}(R:Nat->List V->Prop)(hn:n<=sizeLine)(h0:R 0 [])
  (hs:∀(i:Nat) (l:List V) (D:Addr) (H2:Hp) (E:V->Hp->Prop) (F:Hp->Prop),i<n->R i l->H1 D=none->Same H1 H2->H2 D=some (.lst l)->(∀y H5,Same H2 H5->R (i+1) (l++[y])->E y H5)->(∀H4,Same H2 H4->R (i+1) l->F H4)->
   tt (some (.int (lo+i))::aaV js σ) H2 fun b H4=>if b=true then te (some (.int (lo+i))::aaV js σ) H4 E else F H4)
  (hd:∀(D:Addr) (H2:Hp) (l:List V),R n l->H1 D=none->Same H1 H2->H2 D=some (.lst l)->Q (.ref D) H2):asJ (Itr lo n) js σ tt te Q H1:=by
 intro D hD
 refine⟨fun i m H2=>m=n-i/\i<=n/\Same H1 H2/\∃l,H2 D=some (.lst l)/\l.length<=i/\R i l,⟨n,by simp,Nat.zero_le _,aaB hD _,[],aaA,Nat.le_refl _,h0⟩,?_⟩
 rintro i m H2 ⟨rfl,hi,s2,l,h2,hll,hR⟩
 by_cases hlt:i<n
 ·refine .inr ⟨hlt,fun v H3 y=>?_⟩
  obtain⟨e,ev⟩:=y
  subst e ev
  refine hs i l D _ _ _ hlt hR hD s2 h2 (fun z H5 s5 r5=>?_) (fun H4 s4 r4=>?_)
  ·refine⟨l,s5 _ _ h2,Nat.lt_of_le_of_lt hll (Nat.lt_of_lt_of_le hlt hn),n-(i+1),by omega,rfl,hlt,fun b o hb=>?_,l++[z],aaA,by rw[List.length_append,List.length_singleton];omega,r5⟩
   rw[aaG (aaK hb hD)]
   exact s5 _ _ (s2 _ _ hb)
  ·exact⟨n-(i+1),by omega,rfl,hlt,s2.trans s4,l,s4 _ _ h2,by omega,r4⟩
 ·have e:i=n:=by omega
  subst e
  exact .inl ⟨Nat.le_refl _,hd D H2 l hR hD s2 h2⟩
end
structure E(X:Cx)(e:Expr)(t:TE):Prop where
 h:PE X e t
structure T(X:Cx)(e:Expr)(t:TT):Prop where
 h:PT X e t
structure TW(X:Cx)(e:Expr)(t:TT):Prop where
 h:PW X e t
structure As(X:Cx)(es:List Expr)(t:TA):Prop where
 h:PA X es t
structure S(X:Cx)(st:Stmt)(t:TS):Prop where
 h:PS X st t
structure Ss(X:Cx)(sts:List Stmt)(t:TS):Prop where
 h:PSs X sts t
structure Il(X:Cx)(tg iter:Expr)(wi:TI):Prop where
 h:PI X tg iter wi
structure Gt(X:Cx)(tg:Expr)(t:TG):Prop where
 h:PG X tg t
structure Gts(X:Cx)(ts:List Expr)(t:TGs):Prop where
 h:PGs X ts t
structure Fs(X:Cx)(ifs:List Expr)(t:TT):Prop where
 h:PF X ifs t
structure Op2(X:Cx)(f:Value->Value->Sem Value)(r:R2):Prop where
 h:OpR X f r
structure Op1(X:Cx)(f:Value->Sem Value)(r:V->Hp->VK->Prop):Prop where
 h:UnR X f r
structure Cl1(X:Cx)(f:Value)(r:List V->Hp->VK->Prop):Prop where
 h:acM X f r
structure Ixs(X:Cx)(r:R2):Prop where
 h:IxR X r
section
variable{X:Cx}{a b c e:Expr}{pos p:Pos}{ta tb tc te:TE}{t u:TT}{rest es:List Expr}{tA:TA}{op op':CmpOp}{r r':R2}{x:Str}
theorem v_(i:Nat)(hN:X.N[i]? =some x:=by rfl)(hv:Vis X.env.scope x:=by first | exact Or.inl rfl | exact Or.inr (Or.inl rfl) | exact Or.inr (Or.inr rfl))(hd:(x==("__debug__":Str))=false:=by decide)(hcd:(x==("__classdict__":Str))=false:=by decide):
  E X (.Name x pos) (aN2 i):=⟨aG8 hN hv hd hcd⟩
theorem eI{i j}:E X (.Constant (.int i) j pos) (tC (.int i)):=⟨avJ⟩
theorem eB{k j}:E X (.Constant (.bool k) j pos) (tC (.bl k)):=⟨aPC⟩
theorem eN{j}:E X (.Constant .none j pos) (tC .non):=⟨aKK⟩
theorem eS{z j}:E X (.Constant (.str z) j pos) (tC (.str z)):=⟨axZ⟩
theorem eGl{v:V}{w':Value}(hm:X.mg x=some w')(q:RelV v w')(hg:Gl X x:=by rfl)(hd:(x==("__debug__":Str))=false:=by decide):E X (.Name x pos) (tC v):=⟨azW hg hm q hd⟩
theorem eTy{n:String}(hm:X.mg x=none)(hv:bootBuiltins x=some (.type n))(hg:Gl X x:=by rfl)(hn:x≠"__name__":=by decide)(hd:(x==("__debug__":Str))=false:=by decide):E X (.Name x pos) (tC (.ty n)):=⟨aDA hg hm hv rfl hn hd⟩
theorem eOp{o:Operator}(ho:Op2 X (binaryOp o) r)(ha:E X a ta)(hb:E X b tb):E X (.BinOp a o b pos) (tOp r ta tb):=⟨aOT ho.h ha.h hb.h⟩
theorem eUn{o:UnaryOp}{r1:V->Hp->VK->Prop}(ho:Op1 X (unaryOp o) r1)(ha:E X a ta):E X (.UnaryOp o a pos) (tUn r1 ta):=⟨aM2 ho.h ha.h⟩
theorem adF(ho:Op2 X (compareOp op) r)(ha:E X a ta)(hb:E X b tb)(hm:behindInMarks op b=false:=by first | exact axF _ | rfl):E X (.Compare a [op] [b] pos) (tOp r ta tb):=⟨aBI ho.h ha.h hb.h hm⟩
theorem eCh(ho:Op2 X (compareOp op) r)(ho':Op2 X (compareOp op') r')(ha:E X a ta)(hb:E X b tb)(hc:E X c tc)(hm:lastMarks [op,op'] [b,c]=false:=by with_unfolding_all rfl):E X (.Compare a [op,op'] [b,c] pos) (amP r r' ta tb tc):=⟨avT ho.h ho'.h ha.h hb.h hc.h hm⟩
theorem tCh(ho:Op2 X (compareOp op) r)(ho':Op2 X (compareOp op') r')(ha:E X a ta)(hb:E X b tb)(hc:E X c tc)(hm:lastMarks [op,op'] [b,c]=false:=by with_unfolding_all rfl):T X (.Compare a [op,op'] [b,c] pos) (asR (amP r r' ta tb tc)):=⟨auQ ho.h ho'.h ha.h hb.h hc.h hm⟩
theorem ajK{o}(ha:E X a ta):E X (.BoolOp o [a] pos) ta:=⟨aK4 ha.h⟩
theorem aqP(ha:E X a ta)(hb:E X (.BoolOp .And (b::rest) pos) tb):E X (.BoolOp .And (a::b::rest) pos) (aD1 ta tb):=⟨aG6 ha.h hb.h⟩
theorem eOr(ha:E X a ta)(hb:E X (.BoolOp .Or (b::rest) pos) tb):E X (.BoolOp .Or (a::b::rest) pos) (aLP ta tb):=⟨aN0 ha.h hb.h⟩
theorem eNot(ha:E X a ta):E X (.UnaryOp .Not a pos) (aDK ta):=⟨aKV ha.h⟩
theorem eIf(hc:T X c t)(ha:E X a ta)(hb:E X b tb):E X (.IfExp c a b pos) (tIf t ta tb):=⟨axD hc.h ha.h hb.h⟩
theorem tCm(ho:Op2 X (compareOp op) r)(ha:E X a ta)(hb:E X b tb)(hm:behindInMarks op b=false:=by first | exact axF _ | rfl):T X (.Compare a [op] [b] pos) (asR (tOp r ta tb)):=⟨aCC ho.h ha.h hb.h hm⟩
theorem tNo(ha:T X a t):T X (.UnaryOp .Not a pos) (aMU t):=⟨aIP ha.h⟩
theorem tVa(ha:E X e te)(he:∀whole,isTrue e X.env whole=(do let v ←whole;standAt e.pos;holding [v] (truthy v)):=by intro _;rfl):T X e (L2.tB te):=⟨aJ0 ha.h he⟩
theorem ajO(ha:T X a t):TW X (.BoolOp .And [a] pos) t:=⟨aCA ha.h⟩
theorem akT(ha:T X a t):TW X (.BoolOp .Or [a] pos) t:=⟨aH4 ha.h⟩
theorem aoA(ha:T X a t)(hb:TW X (.BoolOp .And (b::rest) pos) u):TW X (.BoolOp .And (a::b::rest) pos) (aNT t u):=⟨aKP ha.h hb.h⟩
theorem wOr(ha:T X a t)(hb:TW X (.BoolOp .Or (b::rest) pos) u):TW X (.BoolOp .Or (a::b::rest) pos) (tOr t u):=⟨aMN ha.h hb.h⟩
theorem tW(ha:TW X e t):T X e t:=⟨ha.h.pt⟩
theorem aN:As X [] ak0:=⟨ad0⟩
theorem aC(ha:E X e te)(hr:As X es tA)(hs:starEach (e::es) X.env=(false,eval e X.env)::starEach es X.env:=by rfl):As X (e::es) (ahJ te tA):=⟨acN ha.h hr.h hs⟩
theorem axJ(is:List Int)(h:es.map an6=is.map some:=by rfl):As X es (aDN is):=⟨ar0 is h⟩
theorem abW(ha:As X es tA):E X (.List es pos) (aOZ tA):=⟨aJZ ha.h⟩
theorem aa5{k}(ha:As X es tA):E X (.Tuple es k pos) (aMP tA):=⟨aGL ha.h⟩
theorem eIx(hr:Ixs X r)(ha:E X a ta)(hb:E X b tb)(hs:arM b:=by intro _ _;rfl):E X (.Subscript a b pos) (tOp r ta tb):=⟨aOO hr.h ha.h hb.h hs⟩
theorem eD{k k':Nat}{ps:List Str}{sp:Sp}(D:Df X.prog X.w X.K X.mg X.base x k ps sp)(hr:Room k' X.A)(ha:As X (e::es) tA)(hk:k<=k':=by decide)(hg:Gl X x:=by rfl)
  (hdb:(x==("__debug__":Str))=false:=by decide) (he:starEach (e::es) X.env=(false,eval e X.env)::starEach es X.env:=by rfl) (hpl:(backTo pos (starEach es X.env)).any (·.1)=false:=by rfl):
  E X (.Call (.Name x p) (e::es) [] pos) (ar6 sp [] E0 tA):=⟨au5 D hr ha.h hk hg hdb he hpl⟩
theorem eCB{id:String}{rc:List V->Hp->VK->Prop}(hc:Cl1 X (.builtin id) rc)(hm:X.mg x=none)(hv:bootBuiltins x=some (.builtin id))(ha:As X (e::es) tA)(hg:Gl X x:=by rfl)(hn:x≠"__name__":=by decide)(hdb:(x==("__debug__":Str))=false:=by decide)
  (he:starEach (e::es) X.env=(false,eval e X.env)::starEach es X.env:=by rfl) (hpl:(backTo pos (starEach es X.env)).any (·.1)=false:=by rfl):E X (.Call (.Name x p) (e::es) [] pos) (tCB rc tA):=⟨axK hc.h hg hm hv ha.h hn hdb he hpl⟩
theorem eCT{n:String}{rc:List V->Hp->VK->Prop}(hc:Cl1 X (.type n) rc)(hm:X.mg x=none)(hv:bootBuiltins x=some (.type n))(ha:As X (e::es) tA)(hg:Gl X x:=by rfl)(hn:x≠"__name__":=by decide)(hdb:(x==("__debug__":Str))=false:=by decide)
  (he:starEach (e::es) X.env=(false,eval e X.env)::starEach es X.env:=by rfl) (hpl:(backTo pos (starEach es X.env)).any (·.1)=false:=by rfl):E X (.Call (.Name x p) (e::es) [] pos) (tCB rc tA):=⟨asV hc.h hg hm hv ha.h hn hdb he hpl⟩
end
section
variable{X:Cx}
theorem aaL:Op2 X (binaryOp .Add) (rI0 fun i j=>.int (i+j)):=⟨aKS⟩
theorem aa9:Op2 X (binaryOp .Sub) (rI0 fun i j=>.int (i-j)):=⟨aEY⟩
theorem acS:Op2 X (binaryOp .Mult) (rI CMul fun i j=>.int (i*j)):=⟨aHV⟩
theorem afQ:Op2 X (binaryOp .FloorDiv) (rI ayD fun i j=>.int (i / j)):=⟨aAZ⟩
theorem aaW:Op2 X (binaryOp .Mod) (rI (fun _ j=>0<j) fun i j=>.int (i%j)):=⟨aJB⟩
theorem atA:Op2 X (binaryOp .Pow) (rI aAH fun i j=>.int (i^j.toNat)):=⟨aGX⟩
theorem afE:Op2 X (binaryOp .LShift) (rI aAH fun i j=>.int (i*2^j.toNat)):=⟨aIV⟩
theorem aj2:Op2 X (binaryOp .RShift) (rI (fun _ j=>0<=j) fun i j=>.int (i / 2^j.toNat)):=⟨aF9⟩
theorem ah2:Op2 X (binaryOp .BitAnd) (rI0 fun i j=>.int (Builtin.bitAnd i j)):=⟨aJV⟩
theorem oOr:Op2 X (binaryOp .BitOr) (rI0 fun i j=>.int (Builtin.bitOr i j)):=⟨aL5⟩
theorem aBC:Op2 X (binaryOp .Add) aLN:=⟨aE6⟩
theorem oEq:Op2 X (compareOp .Eq) rEq:=⟨aMC⟩
theorem oNe:Op2 X (compareOp .NotEq) rNe:=⟨aND⟩
theorem oLt:Op2 X (compareOp .Lt) (rI0 fun i j=>.bl (decide (i<j))):=⟨aO9⟩
theorem oLe:Op2 X (compareOp .LtE) (rI0 fun i j=>.bl (decide (i<=j))):=⟨aN5⟩
theorem oGt:Op2 X (compareOp .Gt) (rI0 fun i j=>.bl (decide (j<i))):=⟨aN3⟩
theorem oGe:Op2 X (compareOp .GtE) (rI0 fun i j=>.bl (decide (j<=i))):=⟨aMG⟩
theorem xL:Ixs X (aM4 X.K):=⟨aCN⟩
theorem xT:Ixs X (aII X.K):=⟨aI9⟩
theorem amJ:Cl1 X (.builtin "len") (fun xs H Q=>∃p ys,xs=[.ref p]/\(SqL X.K H p ys∨SqT X.K H p ys)/\Q (.int ys.length) H):=⟨amH⟩
theorem aBV:Cl1 X (.builtin "abs") (fun xs H Q=>∃i,xs=[.int i]/\Q (.int (if i<0 then -i else i)) H):=⟨au6⟩
theorem cMax(hc:X.calm=true:=by rfl):Cl1 X (.builtin "max") (fun xs H Q=>∃i j,xs=[.int i,.int j]/\Q (.int (if j>i then j else i)) H):=⟨atD hc⟩
theorem cMin(hc:X.calm=true:=by rfl):Cl1 X (.builtin "min") (fun xs H Q=>∃i j,xs=[.int i,.int j]/\Q (.int (if j<i then j else i)) H):=⟨atP hc⟩
theorem avY:Cl1 X (.type "int") (fun xs H Q=>(∃i,xs=[.int i]/\Q (.int i) H)∨∃k,xs=[.bl k]/\Q (.int (if k then 1 else 0)) H):=⟨as5⟩
theorem cII:Cl1 X (.builtin "isinstance") (fun xs H Q=>∃i:Int,xs=[.int i,.ty "int"]/\Q (.bl true) H):=⟨aq4⟩
theorem cIB:Cl1 X (.builtin "isinstance") (fun xs H Q=>∃i:Int,xs=[.int i,.ty "bool"]/\Q (.bl false) H):=⟨aqW⟩
end
section
variable{X:Cx}{e c iter tg:Expr}{te:TE}{tt:TT}{tA:TA}{wi:TI}{g:TG}{t u tb:TS}{st:Stmt}{rest body ba bb:List Stmt}{pos pos' p:Pos}{x:Str}{a1 a2:Expr}
theorem ssN:Ss X [] aDY:=⟨ayR⟩
theorem ssC(h1:S X st t)(h2:Ss X rest u):Ss X (st::rest) (aM5 t u):=⟨auS h1.h h2.h⟩
theorem ss1(h1:S X st t):Ss X [st] t:=⟨ay5 h1.h⟩
theorem amD:S X st avD:=⟨avO⟩
theorem aaF(he:E X e te):S X (.Return (some e) pos) (aMA te):=⟨aFS he.h⟩
theorem sIf(hc:T X c tt)(ha:Ss X ba t)(hb:Ss X bb u):S X (.If c ba bb pos) (aM7 tt t u):=⟨aNO hc.h ha.h hb.h⟩
theorem atZ(he:E X e te)(hs:swapsWith e none pos.line X.env=pure false:=by rfl):S X (.Expr e pos) (aDX te):=⟨az9 he.h hs⟩
theorem aaI(i:Nat)(he:E X e te)(hN:X.N.Nodup)(hi:X.N[i]? =some x:=by rfl)(hx:Loc X.env.scope x:=by first | exact Or.inl rfl | exact Or.inr rfl)(hs:swapsWith e (some (.Name x pos')) pos.line X.env=pure false:=by rfl)
  (hf:X.fn x=true∨X.env.scope.names.lookup x=some .local:=by first | exact .inl rfl | exact .inr rfl):S X (.Assign [.Name x pos'] e pos) (avS te (ab3 i)):=⟨aHC hN hi hx he.h hs hf⟩
theorem gN(i:Nat)(hN:X.N.Nodup)(hi:X.N[i]? =some x:=by rfl)(hx:Loc X.env.scope x:=by first | exact Or.inl rfl | exact Or.inr rfl)(hf:X.fn x=true∨X.env.scope.names.lookup x=some .local:=by first | exact .inl rfl | exact .inr rfl):Gt X (.Name x pos) (ab3 i):=⟨aBM hN hi hx hf⟩
theorem afK(hi:Il X tg iter wi)(hg:Gt X tg g)(hb:Ss X body tb)(hp:PassesOwn (model X.prog X.w) X.A X.env X.xe)(hc:X.calm=true:=by rfl)(hs:∀x,foldedSetIterable iter X.env x=pure x:=by intro _;rfl):S X (.For tg iter body [] pos) (aNM wi g tb):=⟨aJ3 hp hc hi.h hg.h hb.h hs⟩
theorem sWh(hc:T X c tt)(hb:Ss X body tb)(hp:PassesOwn (model X.prog X.w) X.A X.env X.xe):S X (.While c body [] pos) (aqV tt tb):=⟨axC hp hc.h hb.h⟩
theorem iL(hl:E X e te):Il X tg e (aDW X.K te):=⟨aC5 hl.h⟩
theorem iT(hl:E X e te):Il X tg e (aMV X.K te):=⟨aFH hl.h⟩
theorem iR1(hm:X.mg "range"=none)(ha:As X [a1] tA)(hg:Gl X "range":=by rfl)(hs:starEach [a1] X.env=[(false,eval a1 X.env)]:=by rfl):Il X tg (.Call (.Name "range" p) [a1] [] pos) (aDO tA):=⟨atF hg hm ha.h hs⟩
theorem iR2(hm:X.mg "range"=none)(ha:As X [a1,a2] tA)(hg:Gl X "range":=by rfl)(hs:starEach [a1,a2] X.env=[(false,eval a1 X.env),(false,eval a2 X.env)]:=by rfl)(hs2:starEach [a2] X.env=[(false,eval a2 X.env)]:=by rfl):
  Il X tg (.Call (.Name "range" p) [a1,a2] [] pos) (aD6 tA):=⟨asX hg hm ha.h hs hs2⟩
end
section
variable{P:Program}{w:World}{K:PySem.W.Frag}{mg:Str->Option Value}{base:Heap}{x:Str}{st:Stmt}{ps N:List Str}{k:Nat}{sp:Sp}
theorem Fn.dfs(F:Fn K mg x st ps)(S':FnScope N ps (aaC st))(len:∀vs H Q E,sp vs H Q E->vs.length=ps.length)
  (hbody:∀(f:Addr) (cdv:Value) (A:Around) (outer:List Env) (s:Shared) (H:Hp) (vs:List V) (Q:VK) (E:XK),Room k (A.deeper (envOfC x (aaC st) s.heap.objs.size f cdv))->sp vs H Q E->
   ∃t,Ss (aj7 CX0 P w K mg base N x (aaC st) f cdv A outer s H E).nox (aaQ st) t/\t {nx:=fun _ H'=>Q .non H',rt:=Q} (start N vs) H):Df P w K mg base x (k+1) ps sp:=
 F.df S' len fun f cdv A outer s H vs Q E hr h=>by
  obtain⟨t,h1,h2⟩:=hbody f cdv A outer s H vs Q E hr h
  exact⟨t,h1.h,h2⟩
theorem Fun.oks{f:Addr}{fd:FuncData}(F:Fun K x x st f fd)(S':FnScope N ps (aaC st))(len:∀vs H Q E,sp vs H Q E->vs.length=ps.length)
  (hbody:∀(cdv:Value) (A:Around) (outer:List Env) (s:Shared) (H:Hp) (vs:List V) (Q:VK) (E:XK),Room k (A.deeper (envOfC x (aaC st) s.heap.objs.size f cdv))->sp vs H Q E->
   ∃t,Ss (aj7 CX0 P w K mg base N x (aaC st) f cdv A outer s H E).nox (aaQ st) t/\t {nx:=fun _ H'=>Q .non H',rt:=Q} (start N vs) H):FnOk P w K mg base CX0 (k+1) f fd ps sp:=
 F.ok S' len fun cdv A outer s H vs Q E hr h=>by
  obtain⟨t,h1,h2⟩:=hbody cdv A outer s H vs Q E hr h
  exact⟨t,h1.h,h2⟩
end
end L2
namespace L2
open PySem PySem.Spec PyProof.Rows PySem.SeqAt
theorem agE:∀{is:List Int} {us:List Value},Vals (is.map V.int) us->IntsAre us is
 |[],_,.nil=>.nil
 |_::_,_,.cons ⟨_,rfl⟩ r=>.cons _ _ (agE r)
section
variable{X:Cx}
theorem as0(hc:X.calm=true):acM X (.builtin "sum") (fun xs H Q=>∃(p:Addr) (is:List Int),xs=[.ref p]/\SqL X.K H p (is.map V.int)/\Q (.int is.sum) H):=by
 intro pins s σ H xs us Q I r h
 obtain⟨p,is,rfl,hq,q⟩:=h
 obtain⟨u,rfl,r1⟩:=abT r
 cases r1
 obtain⟨its,rv,pl,hz⟩:=I.list hq
 have hi:=agE rv
 obtain⟨ys,hy⟩:=hi.allInts.items
 have hl:s.heap.IsList p (intItems ys):=by rw[←hy];exact pl.isList
 refine sum_intListG (I.ok.hd hc) hl fun h' tk t' hk=>?_
 have e1:is=ys.toList.map (·.1):=by
  rw[←nums_intItems,←hy]
  exact hi.numsOf.symm
 have e2:preSum (numAt ys) ys.size=is.sum:=by
  rw[preSum_eq,List.take_of_length_le (by simp),e1]
 rw[e2]
 exact⟨.int is.sum,H,I.kept hk,⟨_,rfl⟩,q⟩
end
section
variable{X:Cx}{elt iter:Expr}{x y:Str}{px py pos spos:Pos}{ifs:List Expr}{scope:Scope}{wi:TI}{tt:TT}{te:TE}
theorem acO(N':List Str)(js:List Nat)(hi:Il X (.Name x px) iter wi)
  (ht:∀(cl:List (Str×Addr)) (C:Addr) (ex:List Addr) (pins:List (Addr×Obj)) (s:Shared) (H:Hp),Fs (aaM X (x::N') scope cl C ex pins s H) ifs tt)
  (he:∀(cl:List (Str×Addr)) (C:Addr) (ex:List Addr) (pins:List (Addr×Obj)) (s:Shared) (H:Hp),E (aaM X (x::N') scope cl C ex pins s H) elt te)
  (hcl:∃cl,Clos X scope cl:=by exact an1 rfl rfl rfl rfl) (hx:scope.names.lookup x=some .local:=by rfl) (hnd:(x::N').Nodup:=by decide +kernel) (hN:js.map (fun j=>X.N[j]?)=N'.map some:=by rfl)
  (hk:N'.all (fun y=>(X.env.kindOf y==some .cell)||(X.env.kindOf y==some .free))=true:=by rfl) (hf:N'.all (fun y=>scope.names.lookup y==some .free)=true:=by rfl) (hc:X.calm=true:=by rfl)
  (hs:∀x,foldedSetIterable iter X.env x=pure x:=by intro _;rfl):E X (.ListComp elt [⟨.Name x px,iter,ifs,0⟩] scope pos) (aw7 wi js tt te):=by
 obtain⟨cl,hcl⟩:=hcl
 exact⟨aA0 hcl hx hnd hN hk hf hc hi.h (fun C ex pins s H=>(ht cl C ex pins s H).h) (fun C ex pins s H=>(he cl C ex pins s H).h) hs⟩
theorem aNF(i:Nat)(N':List Str)(js:List Nat)(hi:Il X (.Name x px) iter wi)
  (ht:∀(cl:List (Str×Addr)) (C:Addr) (ex:List Addr) (pins:List (Addr×Obj)) (s:Shared) (H:Hp),Fs (aaM X (x::N') scope cl C ex pins s H) ifs tt)
  (he:∀(cl:List (Str×Addr)) (C:Addr) (ex:List Addr) (pins:List (Addr×Obj)) (s:Shared) (H:Hp),E (aaM X (x::N') scope cl C ex pins s H) elt te)
  (hXN:X.N.Nodup) (hsw:swapsWith (.ListComp elt [⟨.Name x px,iter,ifs,0⟩] scope pos) (some (.Name y py)) spos.line X.env=pure true:=by rfl)
  (hiN:X.N[i]? =some y:=by rfl) (hy:X.env.scope.names.lookup y=some .local:=by rfl)
  (hcl:∃cl,Clos X scope cl:=by exact an1 rfl rfl rfl rfl) (hx:scope.names.lookup x=some .local:=by rfl) (hnd:(x::N').Nodup:=by decide +kernel) (hN:js.map (fun j=>X.N[j]?)=N'.map some:=by rfl)
  (hk:N'.all (fun y=>(X.env.kindOf y==some .cell)||(X.env.kindOf y==some .free))=true:=by rfl) (hf:N'.all (fun y=>scope.names.lookup y==some .free)=true:=by rfl) (hc:X.calm=true:=by rfl)
  (hs:∀x,foldedSetIterable iter X.env x=pure x:=by intro _;rfl):S X (.Assign [.Name y py] (.ListComp elt [⟨.Name x px,iter,ifs,0⟩] scope pos) spos) (avS (aw7 wi js tt te) (ab3 i)):=by
 obtain⟨cl,hcl⟩:=hcl
 refine⟨fun pins s σ H D I h=>?_⟩
 rw[exec_Assign_Name_used _ _ _ _ hsw]
 refine wpAny_bind (wpAny_standAt (wpAny_bind ?_))
 show wpAny _ X.A (do let _ ←comprehension (.ListComp elt [⟨.Name x px,iter,ifs,0⟩] scope pos) scope X.env _ (newList []) false (eval iter X.env) (some (assign (.Name y py) X.env))) _ _ s
 refine wpAny_bind (wpAny_mono (wpAny_comprehension_free (use:=some (assign (.Name y py) X.env)) (Q:=fun _ s'=>SP X pins D .next s') rfl hs hcl.is hcl.kind hcl.names ?_) (fun _ s' hq=>wpAny_pure (wpAny_pure hq)) fun _ _ z=>z)
 refine thn (hi.h pins s σ H _ I h) fun xv s₁ h₁=>thn h₁ fun itv s₂ h₂=>?_
 obtain⟨it,fp,tn,J,H2,rfl,I2,T,st,hfp,q⟩:=h₂
 refine akE (Q:=fun v H'=>D.nx (σ.set i (some v)) H') (RR:=fun acc C=>compPost (model X.prog X.w) X.A X.xe (some (assign (.Name y py) X.env)) (fun _ s'=>SP X pins D .next s') acc C) hcl hx hnd hN hk hf hc (fun C ex pins s H=>(ht cl C ex pins s H).h) (fun C ex pins s H=>(he cl C ex pins s H).h) I2 T st hfp q ?_
 intro D' C s' H' m I' hC0 hCL hCs hCc hCp hn hq
 show wpAny _ _ (assign (.Name y py) X.env (.ref D')) _ _ s'
 refine wpAny_assign_Name (alS I' hXN hiN (.inl hy) (v:=.ref D') rfl (fun s3 I3 sb3=>?_) (.inr hy))
 obtain⟨a3,sb3,e3⟩:=sb3
 have hCa:C≠a3:=by
  rcases e3 with e3 | e3
  ·rw[e3];exact hCL
  ·exact fun z=>hCc y a3 e3 z.symm
 refine⟨m,hn.sameBut sb3 hCa,fun h' sb=>⟨σ.set i (some (.ref D')),H',?_,hq⟩⟩
 exact I3.turned (t':=s3.toks) (fun b o hb e=>(sb.2 b hb).trans e) hC0 hCL (.inr hCs) hCc hCp
theorem fsN:Fs X [] aNN:=⟨aJM⟩
theorem fs1{c:Expr}(h:T X c tt):Fs X [c] tt:=⟨aIH h.h⟩
theorem aO8(hc:X.calm=true:=by rfl):Cl1 X (.builtin "sum") (fun xs H Q=>∃(p:Addr) (is:List Int),xs=[.ref p]/\SqL X.K H p (is.map V.int)/\Q (.int is.sum) H):=⟨as0 hc⟩
theorem gTu{es:List Expr}{k n:Nat}{t:TGs}(h:Gts X es t)(hc:X.calm=true:=by rfl)(hn:(assignEach es X.env).length=n:=by rfl)(hst:(assignEach es X.env).findIdx? (·.1)=none:=by rfl):Gt X (.Tuple es k pos) (aAX X.K n t):=⟨aFT hc h.h hn hst⟩
theorem gsN:Gts X [] aHH:=⟨azO⟩
theorem gsC{e:Expr}{es:List Expr}{t:TG}{u:TGs}(h1:Gt X e t)(h2:Gts X es u)(hs:(assignEach (e::es) X.env).map (·.2)=assign e X.env::(assignEach es X.env).map (·.2):=by rfl):Gts X (e::es) (ar5 t u):=⟨awZ h1.h h2.h hs⟩
theorem af4{tg e:Expr}{g:TG}(he:E X e te)(hg:Gt X tg g)(hs:swapsWithSole [tg] e pos.line X.env=pure false:=by rfl)(hw:swappedStores [tg] e X.env=pure none:=by rfl)
  (h1:(assignEach [tg] X.env).map (·.2)=[assign tg X.env]:=by rfl):S X (.Assign [tg] e pos) (avS te g):=⟨aK0 he.h hg.h hs hw h1⟩
end
section
variable{js:List Nat}{σ:St}{tt:TT}{te:TE}{Q:VK}{H1:Hp}
theorem acZ{K:PySem.W.Frag}{a:Addr}{xs:List V}(R:Nat->List V->Prop)(hn:xs.length<=sizeLine)(h0:R 0 [])(hq:SqL K H1 a xs)
  (hs:∀(i:Nat) (v:V) (l:List V) (D:Addr) (H2:Hp) (E:V->Hp->Prop) (F:Hp->Prop),xs[i]? =some v->R i l->H1 D=none->Same H1 H2->H2 D=some (.lst l)->(∀y H5,Same H2 H5->R (i+1) (l++[y])->E y H5)->(∀H4,Same H2 H4->R (i+1) l->F H4)->
   tt (some v::aaV js σ) H2 fun b H4=>if b=true then te (some v::aaV js σ) H4 E else F H4)
  (hd:∀(D:Addr) (H2:Hp) (l:List V),R xs.length l->H1 D=none->Same H1 H2->H2 D=some (.lst l)->Q (.ref D) H2):asJ (Itl K a) js σ tt te Q H1:=by
 intro D hD
 refine⟨fun i m H2=>m=xs.length-i/\i<=xs.length/\Same H1 H2/\∃l,H2 D=some (.lst l)/\l.length<=i/\R i l,⟨xs.length,by simp,Nat.zero_le _,aaB hD _,[],aaA,Nat.le_refl _,h0⟩,?_⟩
 rintro i m H2 ⟨rfl,hi,s2,l,h2,hll,hR⟩
 by_cases hlt:i<xs.length
 ·refine .inr ⟨⟨xs,xs[i],s2.seq hq,by simp[hlt]⟩,fun v H3 y=>?_⟩
  obtain⟨e,ev⟩:=y
  subst e
  have hv:=ev xs (s2.seq hq)
  refine hs i v l D _ _ _ hv hR hD s2 h2 (fun z H5 s5 r5=>?_) (fun H4 s4 r4=>?_)
  ·refine⟨l,s5 _ _ h2,Nat.lt_of_le_of_lt hll (Nat.lt_of_lt_of_le hlt hn),xs.length-(i+1),by omega,rfl,hlt,fun b o hb=>?_,l++[z],aaA,by rw[List.length_append,List.length_singleton];omega,r5⟩
   rw[aaG (aaK hb hD)]
   exact s5 _ _ (s2 _ _ hb)
  ·exact⟨xs.length-(i+1),by omega,rfl,hlt,s2.trans s4,l,s4 _ _ h2,by omega,r4⟩
 ·have e:i=xs.length:=by omega
  subst e
  exact .inl ⟨⟨xs,s2.seq hq,Nat.le_refl _⟩,hd D H2 l hR hD s2 h2⟩
def IntsR(i:Nat)(l:List V):Prop:=∃zs:List Int,l=zs.map V.int/\zs.length<=i
theorem IntsR.nil:IntsR 0 []:=⟨[],rfl,Nat.le_refl _⟩
theorem aCS{zs:List Int}{i:Nat}{x:V}(h:(zs.map V.int)[i]? =some x):∃z:Int,x=V.int z:=by
 rw[List.getElem?_map] at h
 cases e:zs[i]? with
 |none=>rw[e] at h;cases h
 |some z=>rw[e] at h;exact⟨z,(Option.some.inj h).symm⟩
theorem Same.tup{K:PySem.W.Frag}{H H':Hp}{a:Addr}{xs:List V}(e:Same H H')(h:SqT K H a xs):SqT K H' a xs:=by
 rcases h with (h | ⟨o,h⟩) | h
 ·exact .inl (.inl (e _ _ h))
 ·exact .inl (.inr ⟨o,e _ _ h⟩)
 ·exact .inr h
theorem alH{α:Type}(f:Nat->α)(n:Nat):(List.range (n+1)).map f=(List.range n).map f++[f n]:=by rw[List.range_succ,List.map_append];rfl
theorem aeL{c:TT}{tb:TS}{D:Ends}{σ:St}{H:Hp}(Pv:St->Hp->Prop)(μ:St->Hp->Nat)(h0:Pv σ H)
  (hs:∀σ H,Pv σ H->c σ H fun b H1=>if b=true then ∃N:St->Hp->Prop,(∀σ' H',N σ' H'->∃m',m'<μ σ H/\m'=μ σ' H'/\Pv σ' H')/\tb {D with nx:=N,ct:=N,bk:=D.nx} σ H1 else D.nx σ H1):aqV c tb D σ H:=
 ⟨fun m σ H=>m=μ σ H/\Pv σ H,⟨_,rfl,h0⟩,by
  rintro m σ H ⟨rfl,p⟩
  exact hs σ H p⟩
theorem aq1{X:Cx}:Op1 X (unaryOp .USub) (rU fun i=>.int (-i)):=⟨aHO⟩
end
section
variable{prog:Program}{w:World}{A:Around}{E:Value->Shared->Prop}{s:Shared}
theorem aDT{it l:Addr}{its:Array Value}(hne:l≠it):∀(n i:Nat) (s:Shared) (Q:List Value->Shared->Prop),s.heap.IsListIter it l i->s.heap.IsList l its->i+n<=its.size->
  (∀h',h'.IsListIter it l (i+n)->Heap.SameBut it s.heap h'->Q ((its.toList.drop i).take n) {s with heap:=h'})->wpAny (model prog w) A (draw (.ref it) n) Q E s
 |0,i,s,Q,hit,_,_,hQ=>by
  have z:wpAny (model prog w) A (pure ([]:List Value)) Q E s:=wpAny_pure (by simpa using hQ s.heap hit (Heap.SameBut.refl ..))
  exact z
 |n+1,i,s,Q,hit,hl,hle,hQ=>by
  have hi:i<its.size:=by omega
  have z:wpAny (model prog w) A (pyNext (.ref it)) (fun r s₁=>wpAny (model prog w) A (match r with | none=>pure [] | some v=>(do let rest ←holding [v] (draw (.ref it) n);pure (v::rest))) Q E s₁) E s:=by
   refine wpAny_pyNext_list_item hit hl (x:=its[i]) (by simp[hi]) fun h₁ hit₁ hs₁=>?_
   refine wpAny_bind (wpAny_holding (aDT hne n (i+1) _ _ hit₁ (hl.extBut hs₁.extBut hne) (by omega) fun h₂ hit₂ hs₂=>wpAny_pure ?_))
   have hd:its.toList.drop i=its[i]::its.toList.drop (i+1):=by simp[List.drop_eq_getElem_cons,hi]
   have e:i+(n+1)=i+1+n:=by omega
   have q:=hQ h₂ (by rw[e];exact hit₂) (hs₁.trans hs₂)
   rw[hd,List.take_succ_cons] at q
   exact q
  exact wpAny_bind z
theorem aAL{l:Addr}{its:Array Value}{Q:List Value->Shared->Prop}(hh:A.handled=none)(hl:s.heap.IsList l its)(hQ:∀h',Heap.ExtBut s.heap.objs.size s.heap h'->Q its.toList {s with heap:=h'}):
  wpAny (model prog w) A (unpackItems (.ref l) its.size none) Q E s:=by
 have hne:l≠s.heap.objs.size:=by
  obtain⟨o,ho,_⟩:=hl
  exact Nat.ne_of_lt (Heap.lt_size ho)
 unfold unpackItems
 refine wpAny_bind ?_
 unfold notIterableAtAll
 refine wpAny_bind (wpAny_specialOf hl.typeIs slot_list_iter.lookup (wpAny_pure ?_))
 simp only[Bool.false_eq_true,if_false]
 refine wpAny_bind (wpAny_holding (wpAny_pyIter_list hl (wpAny_bind (wpAny_holding (aDT hne its.size 0 _ _ ⟨_,Heap.get?_push_size _ rfl,rfl,rfl⟩ (hl.push _) (by omega) fun h₁ hit₁ hs₁=>?_)))))
 have all:List.take its.size (List.drop 0 its.toList)=its.toList:=by
  rw[List.drop_zero]
  exact List.take_of_length_le (by simp)
 rw[all,if_neg (by simp)]
 have hl₁:h₁.IsList l its:=(hl.push _).extBut hs₁.extBut hne
 refine wpAny_bind (wpAny_holding (wpAny_pyNext_list_end hh hit₁ hl₁ (by simp) fun h₂ he₂=>?_))
 simp only[Option.isSome_none,Bool.false_eq_true,if_false]
 exact wpAny_pure (hQ h₂ fun b o hb e=>he₂ b o hb (hs₁.extBut b o hb (Heap.get?_push_of_some _ e)))
end
def aM8(K:PySem.W.Frag)(n:Nat)(t:TGs):TG:=fun v σ H Q=>∃a xs,v=.ref a/\SqL K H a xs/\xs.length=n/\t xs σ H Q
section
variable{X:Cx}{pos:Pos}
theorem aJY{es:List Expr}{k n:Nat}{t:TGs}(h:Gts X es t)(hc:X.calm=true:=by rfl)(hn:(assignEach es X.env).length=n:=by rfl)(hst:(assignEach es X.env).findIdx? (·.1)=none:=by rfl):Gt X (.Tuple es k pos) (aM8 X.K n t):=by
 refine⟨fun pins s σ H v u Q I r hw=>?_⟩
 obtain⟨a,xs,e1,hq,hl,hw⟩:=hw
 subst e1
 cases r
 obtain⟨its,rv,pl,hz⟩:=I.list hq
 rw[assign_Tuple]
 refine wpAny_bind (wpAny_standAt ?_)
 unfold unpack
 have e2:(assignEach es X.env).length=its.toArray.size:=by rw[hn,←hl,rv.length,List.size_toArray]
 rw[e2,hst]
 refine wpAny_bind (wpAny_holding (aAL (I.ok.hd hc) pl.isList fun h' hx=>?_))
 have I1:Inv X pins σ H {s with heap:=h'}:=I.kept (t':=s.toks) fun b o e=>hx b o (Nat.ne_of_lt (Heap.lt_size e)) e
 exact h.h pins _ σ H xs _ Q I1 (by simpa using rv) hw
theorem atK{o e:Expr}{to te:TE}{apos cpos:Pos}(ho:E X o to)(he:E X e te)(hbase:attributeBase o "append" X.env (eval o X.env)=eval o X.env:=by rfl)
  (hfew:((backTo cpos (starEach [e] X.env)).all (fun x=> !x.1)&&(backToKw cpos (keywordEach [] X.env)).all (fun x=>x.1.isSome)&&decide (([e]:List Expr).length+([]:List Keyword).length+(if ([]:List Keyword).isEmpty then 0 else 1)<30))=true:=by rfl)
  (hline:(apos.endLine==cpos.line)=true:=by rfl) (hs:starEach [e] X.env=(false,eval e X.env)::starEach [] X.env:=by rfl) (hplain:(backTo cpos (starEach [] X.env)).any (·.1)=false:=by rfl):
  E X (.Call (.Attribute o "append" apos) [e] [] cpos) (tBM X.K "list" ar8 to (ahJ te ak0)):=
 ⟨an4 PySem.F.plainAttrs_list PySem.F.slot_list_append PySem.F.type_list_append agO ho.h (acN he.h ad0 hs) hbase hfew hline hs hplain⟩
end
section
variable{js:List Nat}{σ:St}{tt:TT}{te:TE}{Q:VK}{H1:Hp}
end
def Digs(ds ss:List Int):Prop:=Paired (fun d z:Int=>0<=d/\d<z) ds ss
theorem Digs.snoc{ds ss:List Int}{d z:Int}(h:Digs ds ss)(h0:0<=d)(h1:d<z):Digs (ds++[d]) (ss++[z]):=Paired.snoc h ⟨h0,h1⟩
theorem Digs.len{ds ss:List Int}(h:Digs ds ss):ds.length=ss.length:=Paired.length h
theorem Digs.two{ds:List Int}{a b:Int}(h:Digs ds [a,b]):∃x y:Int,ds=[x,y]/\(0<=x/\x<a)/\0<=y/\y<b:=by
 cases h with
 |cons h1 r=>cases r with | cons h2 r=>cases r;exact⟨_,_,rfl,h1,h2⟩
theorem acE{H H2:Hp}{p:Addr}{o:HO}(hn:H p=none)(s:Same H H2):Same H (upd H2 p o):=fun b u h=>by
 rw[aaG (aaK h hn)]
 exact s b u h
theorem aOS{a m b:Int}(h0:0<m)(h1:m<=18446744073709551616):CMul (a%m) b:=.inl ⟨Int.lt_of_lt_of_le (by decide) (Int.emod_nonneg a (Int.ne_of_gt h0)),Int.lt_of_lt_of_le (Int.emod_lt_of_pos a h0) h1⟩
theorem aNJ:(10:Int)^(18:Int).toNat=1000000000000000000:=by decide +kernel
theorem aMT:(10:Int)^(58:Int).toNat=10000000000000000000000000000000000000000000000000000000000:=by decide +kernel
structure FnM(K:PySem.W.Frag)(C:Addr)(m qual:Str)(st:Stmt)(ps:List Str):Prop where
 ex:∃(f:Addr) (fd:FuncData),Fun K m qual st f fd/\Binds K fd ps []/\Meth K C m f
structure DfM(P:Program)(w:World)(K:PySem.W.Frag)(mg:Str->Option Value)(base:Heap)(C:Addr)(m:Str)(k:Nat)(ps:List Str)(sp:Sp):Prop where
 ex:∃(f:Addr) (fd:FuncData),FnOk P w K mg base CX0 k f fd ps sp/\Binds K fd ps []/\Meth K C m f
structure Cd(K:PySem.W.Frag)(mg:Str->Option Value)(x:Str)(C:Addr):Prop where
 at_:mg x=some (.ref C)
 cl:Cls K C
 makes:PySem.W.makesIn K C=true
 kp:PySem.W.keepIn K (.ref C)=true
section
variable{P:Program}{w:World}{K:PySem.W.Frag}{mg:Str->Option Value}{base:Heap}{m qual:Str}{st:Stmt}{ps N:List Str}{k:Nat}{sp:Sp}{C:Addr}
theorem FnM.dfs(F:FnM K C m qual st ps)(S':FnScope N ps (aaC st))(len:∀vs H Q E,sp vs H Q E->vs.length=ps.length)
  (hbody:∀(f:Addr) (cdv:Value) (A:Around) (outer:List Env) (s:Shared) (H:Hp) (vs:List V) (Q:VK) (E:XK),Room k (A.deeper (envOfC qual (aaC st) s.heap.objs.size f cdv))->sp vs H Q E->
   ∃t,Ss (aj7 CX0 P w K mg base N qual (aaC st) f cdv A outer s H E).nox (aaQ st) t/\t {nx:=fun _ H'=>Q .non H',rt:=Q} (start N vs) H):DfM P w K mg base C m (k+1) ps sp:=by
 obtain⟨f,fd,F1,hb,hm⟩:=F.ex
 refine⟨⟨f,fd,F1.ok S' len fun cdv A outer s H vs Q E hr h=>?_,hb,hm⟩⟩
 obtain⟨t,h1,h2⟩:=hbody f cdv A outer s H vs Q E hr h
 exact⟨t,h1.h,h2⟩
theorem abF{f:Addr}{oc:Value}{od an:Option Addr}{osl:Array (Option Value)}{kV doc pm cdv ct:Value}
  (a:PySem.W.findIn K (.ref C) m=some (some (.ref f))) (i:PySem.W.isFn K (.ref f)=true) (l:K.lookup f=some ⟨oc,od,.func (PySem.W.fnOf m qual (abB st) (aaQ st) (aaC st) .none kV doc pm an cdv ct),osl⟩)
  (c:PySem.W.codeIn K cdv qual=true) (k:PySem.W.keepIn K (.ref f)=true)
  (hb:∀(kV doc pm:Value) (an:Option Addr) (cdv ct:Value) (us:List Value),us.length=ps.length->bindArgs (PySem.W.fnOf m qual (abB st) (aaQ st) (aaC st) .none kV doc pm an cdv ct) ⟨us,[]⟩=pure (ps.zip us)):FnM K C m qual st ps:=by
 have F:=aqY (st:=st) l c k
 exact⟨⟨f,_,F,F.binds (ps:=ps) hb,⟨a,i,k⟩⟩⟩
end
section
variable{X:Cx}{x m:Str}{C:Addr}{k k':Nat}{ps:List Str}{sp:Sp}{e o value:Expr}{es:List Expr}{ta tv:TE}{t:TA}{p pos apos pos':Pos}{f:Str}
theorem eMk(c:Cd X.K X.mg x C)(D:DfM X.prog X.w X.K X.mg X.base C "__init__" k ps sp)(hr:Room k' X.A)(ha:As X (e::es) t)(hk:k+1<=k':=by decide)(hg:Gl X x:=by rfl)(hdb:(x==("__debug__":Str))=false:=by decide)
  (he:starEach (e::es) X.env=(false,eval e X.env)::starEach es X.env:=by rfl) (hpl:(backTo pos (starEach es X.env)).any (·.1)=false:=by rfl):E X (.Call (.Name x p) (e::es) [] pos) (ar1 C sp [] E0 t):=by
 obtain⟨f,fd,F,hb,hm⟩:=D.ex
 exact⟨aDH ⟨c.makes,hm.at_,hm.fn,c.kp⟩ F (hr.mono hk) hg c.at_ hb .nil aoJ ha.h hdb he hpl⟩
theorem eMe{pl:Sem Bool}(c:Cls X.K C)(D:DfM X.prog X.w X.K X.mg X.base C m k ps sp)(hr:Room k' X.A)(ho:E X o ta)(ha:As X (e::es) t)(hk:k<=k':=by decide)
  (hst:starEach (e::es) X.env=(false,eval e X.env)::starEach es X.env:=by rfl) (hpl:(backTo pos (starEach es X.env)).any (·.1)=false:=by rfl)
  (ht:eval (.Call (.Attribute o m apos) (e::es) [] pos) X.env=(do
   let ov ←eval o X.env
   standAt apos.atName
   let (f,first) ←holding [ov] (getMethod ov m pl)
   callWith pos f first (backTo pos (starEach (e::es) X.env)) (backToKw pos (keywordEach [] X.env))):=by rfl):E X (.Call (.Attribute o m apos) (e::es) [] pos) (aD8 C m sp [] E0 ta t):=by
 obtain⟨f,fd,F,hb,hm⟩:=D.ex
 exact⟨aDD ho.h c hm F (hr.mono hk) hb .nil aoJ ha.h hst hpl ht⟩
theorem eFl(he:E X e ta)(hb:attributeBase e f X.env (eval e X.env)=eval e X.env:=by rfl):E X (.Attribute e f pos) (aN4 X.K ta f):=⟨aFG he.h hb⟩
theorem sFl(ha:E X o ta)(hv:E X value tv)(hs:swapsWith value (some (.Attribute o f pos')) pos.line X.env=pure false:=by rfl):S X (.Assign [.Attribute o f pos'] value pos) (aNU X.K ta tv f):=⟨aJU ha.h hv.h hs⟩
def tMkN(C:Addr):TE:=fun _ H Q=>∀x dx,H x=none->H dx=none->dx≠x->Q (.ref x) (upd (upd H dx (.own x)) x (.ins C dx []))
theorem eMkN(c:Cd X.K X.mg x C)(hi:PySem.W.findIn X.K (.ref C) "__init__"=some (some (.builtin "object.__init__")))(hg:Gl X x:=by rfl)(hdb:(x==("__debug__":Str))=false:=by decide):E X (.Call (.Name x p) [] [] pos) (tMkN C):=by
 refine⟨fun pins s σ H Q I h=>?_⟩
 refine wpAny_Call_Name_kw (agG I hg c.at_ ?_ hdb)
 refine PySem.W.callWith_K0 I.kIn c.kp (wpAny_call ?_)
 have hq:=h (s.heap.objs.size+1) s.heap.objs.size (I.hok.fresh (Nat.le_succ _)) (I.hok.fresh (Nat.le_refl _)) (Nat.ne_of_lt (Nat.lt_succ_self _))
 have I2:=Inv.made (C:=C) I
 have e2:((s.heap.push PySem.W.emptyDict).push (PySem.W.instObj C s.heap.objs.size)).get? (s.heap.objs.size+1)=some (PySem.W.instObj C s.heap.objs.size):=by
  have:=Heap.get?_push_size (s.heap.push PySem.W.emptyDict) (o:=PySem.W.instObj C s.heap.objs.size) rfl
  rwa [Heap.size_push] at this
 have Y:=PySem.W.makes_of (M:=model X.prog X.w) I.kIn c.makes
 refine atY I.kIn c.makes hi (fun self=>PySem.W.Looks.of_pure (PySem.W.oi_bind self)) ?_
 have t1:PySem.W.Looks (model X.prog X.w) ((s.heap.push PySem.W.emptyDict).push (PySem.W.instObj C s.heap.objs.size)) (typeOf (.ref (s.heap.objs.size+1))) (.ref C):=(PySem.W.Looks.ld e2).andThen .now
 have t2:PySem.W.Looks (model X.prog X.w) ((s.heap.push PySem.W.emptyDict).push (PySem.W.instObj C s.heap.objs.size)) (isInstance (.ref (s.heap.objs.size+1)) (.type "object")) true:=t1.andThen (Y.top.keeps fun b o q=>Heap.get?_push_of_some _ (Heap.get?_push_of_some _ q))
 refine codeAny_call_builtin PySem.W.oi_plain PySem.W.entry_oi (@PySem.W.check_slot (model X.prog X.w) _ _ _ "object.__init__" "object" "__init__" (.ref (s.heap.objs.size+1)) [] [] _ PySem.W.oi_kind PySem.W.oi_split t2 (PySem.W.oi_args (.ref (s.heap.objs.size+1))) ?_)
 rw[PySem.W.oi_run]
 exact wpAny_pure (And.intro rfl ⟨V.ref (s.heap.objs.size+1),_,I2,rfl,hq⟩)
end
structure Po(X:Cx)(o:Option Expr)(t:TO):Prop where
 h:PO X o t
structure Sls(X:Cx)(r:V->Option Int->Option Int->Hp->VK->Prop):Prop where
 h:SlR X r
section
variable{X:Cx}{e:Expr}{te:TE}{lo hi:Option Expr}{tl th:TO}{pos p2:Pos}
theorem poN:Po X none arT:=⟨ayZ⟩
theorem poS(h:E X e te):Po X (some e) (aD9 te):=⟨azE h.h⟩
theorem slL:Sls X (aL8 X.K):=⟨aBN⟩
theorem eSl{r:V->Option Int->Option Int->Hp->VK->Prop}(hr:Sls X r)(he:E X e te)(hl:Po X lo tl)(hu:Po X hi th):E X (.Subscript e (.Slice lo hi none p2) pos) (tSl r te tl th):=⟨avB hr.h he.h hl.h hu.h⟩
end
def auZ(xs:List Int)(lo hi:Option Int):List Int:=(xs.drop (HT.sIx xs.length 0 lo)).take (HT.sIx xs.length xs.length hi-HT.sIx xs.length 0 lo)
theorem aJT(xs:List Int)(lo hi:Option Int):ahZ (xs.map V.int) lo hi=(auZ xs lo hi).map V.int:=by
 unfold ahZ auZ
 rw[List.length_map,List.map_take,List.map_drop]
structure FunD(K:PySem.W.Frag)(x qual:Str)(st:Stmt)(f:Addr)(fd:FuncData):Prop where
 ex:∃(oc:Value) (od:Option Addr) (dV kV doc pm:Value) (an:Option Addr) (cdv ct:Value) (osl:Array (Option Value)),
  fd=PySem.W.fnOf x qual (abB st) (aaQ st) (aaC st) dV kV doc pm an cdv ct/\K.lookup f=some ⟨oc,od,.func fd,osl⟩/\PySem.W.codeIn K cdv qual=true
 kp:PySem.W.keepIn K (.ref f)=true
structure FnMD(K:PySem.W.Frag)(C:Addr)(m qual:Str)(st:Stmt)(ps:List Str)(dvs:List V):Prop where
 ex:∃(f:Addr) (fd:FuncData) (ds:List Value),FunD K m qual st f fd/\Binds K fd ps []/\Vals dvs ds/\Binds K fd ps ds/\Meth K C m f
structure DfMD(P:Program)(w:World)(K:PySem.W.Frag)(mg:Str->Option Value)(base:Heap)(C:Addr)(m:Str)(k:Nat)(ps:List Str)(sp:Sp)(dvs:List V):Prop where
 ex:∃(f:Addr) (fd:FuncData) (ds:List Value),FnOk P w K mg base CX0 k f fd ps sp/\Binds K fd ps []/\Vals dvs ds/\Binds K fd ps ds/\Meth K C m f
section
variable{P:Program}{w:World}{K:PySem.W.Frag}{mg:Str->Option Value}{base:Heap}{m qual:Str}{st:Stmt}{ps N:List Str}{k:Nat}{sp:Sp}{C:Addr}{dvs:List V}
theorem DfMD.dfm(D:DfMD P w K mg base C m k ps sp dvs):DfM P w K mg base C m k ps sp:=by
 obtain⟨f,fd,ds,a,b,_,_,e⟩:=D.ex
 exact⟨⟨f,fd,a,b,e⟩⟩
theorem FnMD.dfs(F:FnMD K C m qual st ps dvs)(S':FnScope N ps (aaC st))(len:∀vs H Q E,sp vs H Q E->vs.length=ps.length)
  (hbody:∀(f:Addr) (cdv:Value) (A:Around) (outer:List Env) (s:Shared) (H:Hp) (vs:List V) (Q:VK) (E:XK),Room k (A.deeper (envOfC qual (aaC st) s.heap.objs.size f cdv))->sp vs H Q E->
   ∃t,Ss (aj7 CX0 P w K mg base N qual (aaC st) f cdv A outer s H E).nox (aaQ st) t/\t {nx:=fun _ H'=>Q .non H',rt:=Q} (start N vs) H):DfMD P w K mg base C m (k+1) ps sp dvs:=by
 obtain⟨f,fd,ds,F1,hb,hv,hbd,hm⟩:=F.ex
 refine⟨⟨f,fd,ds,?_,hb,hv,hbd,hm⟩⟩
 obtain⟨oc,od,dV,kV,doc,pm,an,cdv,ct,osl,rfl,lk,hcd⟩:=F1.ex
 refine aEB lk hcd S' len fun A outer s H vs Q E hr hsp=>?_
 obtain⟨t,h,q⟩:=hbody f cdv A outer s H vs Q E hr hsp
 exact⟨t,h.h.nox,q⟩
theorem aB6{f:Addr}{oc:Value}{od an:Option Addr}{osl:Array (Option Value)}{dV kV doc pm cdv ct:Value}{ds:List Value}
  (a:PySem.W.findIn K (.ref C) m=some (some (.ref f))) (i:PySem.W.isFn K (.ref f)=true) (l:K.lookup f=some ⟨oc,od,.func (PySem.W.fnOf m qual (abB st) (aaQ st) (aaC st) dV kV doc pm an cdv ct),osl⟩)
  (c:PySem.W.codeIn K cdv qual=true) (k:PySem.W.keepIn K (.ref f)=true)
  (hb:Binds K (PySem.W.fnOf m qual (abB st) (aaQ st) (aaC st) dV kV doc pm an cdv ct) ps []) (hv:Vals dvs ds) (hd:Binds K (PySem.W.fnOf m qual (abB st) (aaQ st) (aaC st) dV kV doc pm an cdv ct) ps ds):FnMD K C m qual st ps dvs:=
 ⟨⟨f,_,ds,⟨⟨oc,od,dV,kV,doc,pm,an,cdv,ct,osl,rfl,l,c⟩,k⟩,hb,hv,hd,⟨a,i,k⟩⟩⟩
end
section
variable{X:Cx}{x:Str}{C:Addr}{k k':Nat}{ps:List Str}{sp:Sp}{p pos:Pos}{dvs:List V}
theorem eMkD(c:Cd X.K X.mg x C)(D:DfMD X.prog X.w X.K X.mg X.base C "__init__" k ps sp dvs)(hr:Room k' X.A)(hk:k+1<=k':=by decide)(hg:Gl X x:=by rfl)(hdb:(x==("__debug__":Str))=false:=by decide):
  E X (.Call (.Name x p) [] [] pos) (ar1 C sp dvs E0 ak0):=by
 obtain⟨f,fd,ds,F,_,hv,hb,hm⟩:=D.ex
 exact⟨auP ⟨c.makes,hm.at_,hm.fn,c.kp⟩ F (hr.mono hk) hg c.at_ hb hv aoJ hdb⟩
end
theorem ajZ{H:Hp}{xo dx:Addr}{a b:HO}(nx:H xo=none)(ndx:H dx=none):Same H (upd (upd H dx a) xo b):=fun z u hb=>by
 rw[aaG (aaK hb nx),aaG (aaK hb ndx)]
 exact hb
theorem ab9{H:Hp}{xo dx:Addr}{a b c:HO}(nx:H xo=none)(ndx:H dx=none):Same H (upd (upd (upd H dx a) xo b) xo c):=fun z u hb=>by
 rw[aaG (aaK hb nx)]
 exact ajZ nx ndx z u hb
theorem axL{H:Hp}{xo dx:Addr}{a b c d:HO}(nx:H xo=none)(ndx:H dx=none):Same H (upd (upd (upd (upd H dx a) xo b) xo c) xo d):=fun z u hb=>by
 rw[aaG (aaK hb nx)]
 exact ab9 nx ndx z u hb
end L2
namespace L2
open PySem PyProof.Rows
def aL1(p:Nat->Bool):Nat->Nat
 |0=>0
 |n+1=>aL1 p n+(if p n=true then 2^n else 0)
@[irreducible] def cnt(p:Nat->Bool)(n:Nat):Nat:=aL1 p n
theorem aj8(p:Nat->Bool):cnt p 0=0:=by rw[cnt];rfl
theorem ajV(p:Nat->Bool)(n:Nat):cnt p (n+1)=cnt p n+(if p n=true then 2^n else 0):=by rw[cnt,cnt];rfl
theorem ap8(p:Nat->Bool):∀n,cnt p n<2^n
 |0=>by rw[aj8];decide
 |n+1=>by
  have h:=ap8 p n
  rw[ajV,Nat.pow_succ]
  split<;>omega
theorem arN(p:Nat->Bool):∀n i,(cnt p n).testBit i=(decide (i<n)&&p i)
 |0,i=>by rw[aj8];simp
 |n+1,i=>by
  have h:=ap8 p n
  have ih:=arN p n i
  rw[ajV]
  by_cases hp:p n=true
  ·rw[if_pos hp,Nat.add_comm]
   rcases Nat.lt_trichotomy i n with hi | hi | hi
   ·rw[Nat.testBit_two_pow_add_gt hi,ih]
    simp[hi,Nat.lt_succ_of_lt hi]
   ·subst hi
    rw[Nat.testBit_two_pow_add_eq,ih]
    simp[hp]
   ·have h2:2^n+cnt p n<2^i:=Nat.lt_of_lt_of_le (by rw[Nat.pow_succ];omega) (Nat.pow_le_pow_right (by decide) hi)
    rw[Nat.testBit_lt_two_pow h2]
    have:¬i<n+1:=by omega
    simp[this]
  ·rw[if_neg hp,Nat.add_zero,ih]
   by_cases e:i=n
   ·subst e
    simp[hp]
   ·have:(i<n+1)↔(i<n):=by omega
    simp[this]
def tb(m:Int)(i:Nat):Bool:=m.toNat.testBit i
theorem abI(k:Nat):((2^k:Nat):Int)=(2:Int)^k:=by rw[Int.natCast_pow];rfl
theorem abU(k:Nat):(0:Int)<2^k:=by rw[←abI];exact Int.natCast_pos.mpr (Nat.two_pow_pos k)
theorem asF{m:Int}(h:0<=m)(k:Nat):m / 2^k=((m.toNat >>> k:Nat):Int):=by
 obtain⟨n,rfl⟩:=Int.eq_ofNat_of_zero_le h
 rw[Int.toNat_natCast,Nat.shiftRight_eq_div_pow,←abI,Int.natCast_ediv]
theorem asP(a b:Nat):Builtin.bitAnd (a:Int) (b:Int)=((a&&& b:Nat):Int):=bitAnd_pp (Int.natCast_nonneg a) (Int.natCast_nonneg b)
theorem awB(a b:Nat):Builtin.bitOr (a:Int) (b:Int)=((a||| b:Nat):Int):=by
 rw[bitOr_and,asP]
 have:=nat_or_add_and a b
 omega
theorem ac9{m:Int}(h:0<=m)(k:Nat):(Builtin.bitAnd (m / 2^k) 1=1)↔tb m k=true:=by
 rw[asF h,show (1:Int)=((1:Nat):Int) from rfl,asP]
 unfold tb
 rw[Nat.testBit_eq_decide_div_mod_eq,Nat.shiftRight_eq_div_pow]
 have:m.toNat / 2^k&&& 1=m.toNat / 2^k%2:=Nat.and_two_pow_sub_one_eq_mod _ 1
 rw[this]
 simp only[decide_eq_true_eq]
 omega
theorem anA{a b:Int}(ha:0<=a)(hb:0<=b):0<=Builtin.bitAnd a b:=by rw[bitAnd_pp ha hb];exact Int.natCast_nonneg _
theorem acY{a b:Int}(ha:0<=a)(hb:0<=b):0<=Builtin.bitOr a b:=by
 obtain⟨x,rfl⟩:=Int.eq_ofNat_of_zero_le ha
 obtain⟨y,rfl⟩:=Int.eq_ofNat_of_zero_le hb
 rw[awB]
 exact Int.natCast_nonneg _
theorem ajQ{a b:Int}(ha:0<=a)(hb:0<=b)(i:Nat):tb (Builtin.bitAnd a b) i=(tb a i&&tb b i):=by
 unfold tb
 rw[bitAnd_pp ha hb,Int.toNat_natCast,Nat.testBit_and]
theorem ahF{a b:Int}(ha:0<=a)(hb:0<=b)(i:Nat):tb (Builtin.bitOr a b) i=(tb a i||tb b i):=by
 obtain⟨x,rfl⟩:=Int.eq_ofNat_of_zero_le ha
 obtain⟨y,rfl⟩:=Int.eq_ofNat_of_zero_le hb
 unfold tb
 rw[awB,Int.toNat_natCast,Nat.testBit_or,Int.toNat_natCast,Int.toNat_natCast]
theorem awO(k i:Nat):tb (2^k) i=decide (k=i):=by
 unfold tb
 rw[←abI,Int.toNat_natCast,Nat.testBit_two_pow]
theorem abL(i:Nat):tb 0 i=false:=by unfold tb;simp
theorem abE{a b:Int}(ha:0<=a)(hb:0<=b)(h:∀i,tb a i=tb b i):a=b:=by
 have:a.toNat=b.toNat:=Nat.eq_of_testBit_eq h
 omega
theorem aGK{m:Int}(h:0<=m)(k i:Nat):tb (m*2^k) i=(decide (k<=i)&&tb m (i-k)):=by
 obtain⟨x,rfl⟩:=Int.eq_ofNat_of_zero_le h
 unfold tb
 rw[←abI,←Int.natCast_mul,Int.toNat_natCast,Int.toNat_natCast,←Nat.shiftLeft_eq,Nat.testBit_shiftLeft]
theorem awK{m:Int}(h:0<=m)(k i:Nat):tb (m / 2^k) i=tb m (k+i):=by
 rw[asF h]
 unfold tb
 rw[Int.toNat_natCast,Nat.testBit_shiftRight]
theorem aiX{m:Int}{n i:Nat}(h:m<2^n)(hi:n<=i):tb m i=false:=by
 unfold tb
 refine Nat.testBit_lt_two_pow (Nat.lt_of_lt_of_le ?_ (Nat.pow_le_pow_right (by decide) hi))
 by_cases h0:0<=m
 ·have:=abI n
  omega
 ·have:m.toNat=0:=by omega
  rw[this]
  exact Nat.two_pow_pos n
@[irreducible] def mk_(p:Nat->Bool)(n:Nat):Int:=(cnt p n:Nat)
theorem alJ(p:Nat->Bool)(n:Nat):mk_ p n=(cnt p n:Nat):=by rw[mk_]
theorem av9(p:Nat->Bool)(n:Nat):0<=mk_ p n:=by rw[alJ];exact Int.natCast_nonneg _
theorem aCD(p:Nat->Bool):mk_ p 0=0:=by rw[alJ,aj8];rfl
theorem axP(p:Nat->Bool)(n i:Nat):tb (mk_ p n) i=(decide (i<n)&&p i):=by
 unfold tb
 rw[alJ,Int.toNat_natCast,arN]
theorem asN(p:Nat->Bool)(n:Nat):mk_ p (n+1)=mk_ p n+(if p n=true then 2^n else 0):=by
 rw[alJ,alJ,ajV,Int.natCast_add]
 split
 ·rw[abI]
 ·rfl
theorem aDL(p:Nat->Bool)(n:Nat):mk_ p n<2^n:=by
 have:=ap8 p n
 have e:=abI n
 rw[alJ]
 omega
theorem asD(n i:Nat):tb (2^n-1) i=decide (i<n):=by
 have h:=abI n
 have:((2:Int)^n-1).toNat=2^n-1:=by
  have:=Nat.two_pow_pos n
  omega
 unfold tb
 rw[this,Nat.testBit_two_pow_sub_one]
def aLK(p:Nat->Bool)(lo:Int):Nat->List Int
 |0=>[]
 |n+1=>aLK p lo n++(if p n=true then [lo+(n:Int)] else [])
@[irreducible] def flt(p:Nat->Bool)(lo:Int)(n:Nat):List Int:=aLK p lo n
theorem apY(p:Nat->Bool)(lo:Int):flt p lo 0=[]:=by rw[flt];rfl
theorem asQ{p:Nat->Bool}{lo:Int}{α:Type}{f:Int->α}:[]=(flt p lo 0).map f:=by rw[apY];rfl
theorem ao1(p:Nat->Bool)(lo:Int)(n:Nat):flt p lo (n+1)=flt p lo n++(if p n=true then [lo+(n:Int)] else []):=by rw[flt,flt];rfl
theorem amX{p:Nat->Bool}{lo:Int}{n:Nat}(h:p n=true):flt p lo (n+1)=flt p lo n++[lo+(n:Int)]:=by
 rw[ao1,if_pos h]
theorem anJ{p:Nat->Bool}{lo:Int}{n:Nat}(h:p n=false):flt p lo (n+1)=flt p lo n:=by
 rw[ao1,h,if_neg Bool.false_ne_true,List.append_nil]
theorem flt_mem{p:Nat->Bool}{lo z:Int}:∀{n:Nat},z∈flt p lo n↔∃i,i<n/\p i=true/\z=lo+(i:Int)
 |0=>by rw[apY];exact⟨fun h=>(nomatch h),fun ⟨i,h,_⟩=>absurd h (Nat.not_lt_zero i)⟩
 |n+1=>by
  by_cases c:p n=true
  ·rw[amX c,List.mem_append,flt_mem,List.mem_singleton]
   refine⟨fun h=>?_,fun ⟨i,h1,h2,h3⟩=>?_⟩
   ·rcases h with ⟨i,h1,h2,h3⟩ | h
    ·exact⟨i,by omega,h2,h3⟩
    ·exact⟨n,by omega,c,h⟩
   ·by_cases e:i=n
    ·subst e;exact .inr h3
    ·exact .inl ⟨i,by omega,h2,h3⟩
  ·rw[anJ (by simpa using c),flt_mem]
   refine⟨fun ⟨i,h1,h2,h3⟩=>⟨i,by omega,h2,h3⟩,fun ⟨i,h1,h2,h3⟩=>⟨i,?_,h2,h3⟩⟩
   have:i≠n:=fun e=>c (e▸h2)
   omega
theorem aJ7{p:Nat->Bool}{lo:Int}{n k:Nat}(h:∀i,n<=i->p i=false)(hk:n<=k):flt p lo k=flt p lo n:=by
 obtain⟨d,rfl⟩:=Nat.exists_eq_add_of_le hk
 clear hk
 induction d with
 |zero=>rfl
 |succ d ih=>rw[show n+(d+1)=(n+d)+1 from rfl,anJ (h _ (by omega)),ih]
def aa3(zs:List Int):Int:=zs.foldl (fun a z=>Builtin.bitOr a (1*2^z.toNat)) 0
theorem ai2(zs:List Int)(z:Int):aa3 (zs++[z])=Builtin.bitOr (aa3 zs) (1*2^z.toNat):=by unfold aa3;rw[List.foldl_append];rfl
theorem anI:∀(zs:List Int) (a:Int),0<=a->0<=zs.foldl (fun a z=>Builtin.bitOr a (1*2^z.toNat)) a/\∀i,tb (zs.foldl (fun a z=>Builtin.bitOr a (1*2^z.toNat)) a) i=(tb a i||zs.any fun z=>decide (z.toNat=i))
 |[],a,h=>⟨h,fun i=>by simp⟩
 |z::zs,a,h=>by
  have e:(1*2^z.toNat:Int)=2^z.toNat:=by omega
  have p:=Int.le_of_lt (abU z.toNat)
  obtain⟨h1,h2⟩:=anI zs (Builtin.bitOr a (1*2^z.toNat)) (by rw[e];exact acY h p)
  refine⟨h1,fun i=>?_⟩
  show tb (zs.foldl _ (Builtin.bitOr a (1*2^z.toNat))) i=_
  rw[h2 i,e,ahF h p,awO,List.any_cons,Bool.or_assoc]
theorem abC(zs:List Int):0<=aa3 zs:=(anI zs 0 (Int.le_refl 0)).1
theorem abH(zs:List Int)(i:Nat):tb (aa3 zs) i=zs.any fun z=>decide (z.toNat=i):=by
 have h:=(anI zs 0 (Int.le_refl 0)).2 i
 rw[abL,Bool.false_or] at h
 exact h
theorem aCX{m:Int}(h:0<=m):m<2^Builtin.Int.intBits m:=by
 unfold Builtin.Int.intBits
 split
 ·rename_i c
  have:m=0:=by simpa using c
  rw[this]
  decide
 ·have:=Nat.lt_log2_self (n:=m.natAbs)
  have e:=abI (m.natAbs.log2+1)
  omega
theorem anG{m:Int}{n:Nat}(h:0<=m)(hn:m<2^n):Builtin.Int.intBits m<=n:=by
 unfold Builtin.Int.intBits
 split
 ·exact Nat.zero_le _
 ·rename_i c
  have h0:m≠0:=by simpa using c
  have e:=abI n
  have:m.natAbs.log2<n:=(Nat.log2_lt (by omega)).mpr (by omega)
  omega
def apT(m:Int):List Int:=flt (tb m) 0 (Builtin.Int.intBits m)
theorem azF{m:Int}{n:Nat}(h:0<=m)(hn:m<2^n):apT m=flt (tb m) 0 n:=
 (aJ7 (fun i hi=>aiX (aCX h) hi) (anG h hn)).symm
theorem arS{m:Int}(h:0<=m)(k:Nat):decide (Builtin.bitAnd (m / 2^k) 1=1)=tb m k:=by
 by_cases c:tb m k=true
 ·rw[c];exact decide_eq_true ((ac9 h _).mpr c)
 ·have c':tb m k=false:=by simpa using c
  rw[c'];exact decide_eq_false fun q=>c ((ac9 h _).mp q)
end L2
namespace L2
open PySem PyProof.Rows
section
variable{X:Cx}{tg:Expr}
theorem asK{a b c:Int}(hc:0<c):0<=Builtin.Range.rangeSize a b c:=by
 unfold Builtin.Range.rangeSize
 rw[if_pos hc]
 split
 ·have:0<=(b-a-1) / c:=Int.ediv_nonneg (by omega) (by omega)
  omega
 ·exact Int.le_refl 0
end
def avH(a:Addr)(lo hi st:Int):HO:=.ext fun h=>∃t u v,h.get? a=some {cls:=.type "range",data:=.fields #[.int lo t,.int hi u,.int st v]}
section
variable{X:Cx}
theorem apK{pins:List (Addr×Obj)}{σ:St}{H:Hp}{s:Shared}{Q:VK}{lo hi st:Int}{t u v:Tok}{tk:Nat}(I:Inv X pins σ H s)(q:∀p,H p=none->Q (.ref p) (upd H p (avH p lo hi st))):
  EP X pins σ Q (.ref s.heap.objs.size) {s with heap:=s.heap.push {cls:=.type "range",data:=.fields #[.int lo t,.int hi u,.int st v]},toks:=tk}:=by
 refine⟨.ref s.heap.objs.size,upd H s.heap.objs.size (avH s.heap.objs.size lo hi st),I.laid (t':=tk) (fun b u e=>Heap.get?_push_of_some _ e) (Nat.le_refl _) ?_,rfl,q _ (I.hok.fresh (Nat.le_refl _))⟩
 have e:=Heap.get?_push_size s.heap (o:={cls:=.type "range",data:=.fields #[.int lo t,.int hi u,.int st v]}) rfl
 exact⟨⟨t,u,v,e⟩,⟨_,e⟩,fun h1 h2 ⟨t,u,v,z⟩ k=>⟨t,u,v,k _ z⟩⟩
theorem aPA:Cl1 X (.type "range") (fun xs H Q=>∃i j,xs=[.int i,.int j]/\∀p,H p=none->Q (.ref p) (upd H p (avH p i j 1))):=by
 refine⟨fun pins s σ H xs us Q I r h=>?_⟩
 obtain⟨i,j,rfl,q⟩:=h
 obtain⟨u,u',rfl,⟨t,rfl⟩,⟨t',rfl⟩⟩:=akD r
 exact call_range_2 (apK I q)
theorem aBD:Cl1 X (.type "range") (fun xs H Q=>∃i j c,xs=[.int i,.int j,.int c]/\(0<c/\c<1073741824)/\∀p,H p=none->Q (.ref p) (upd H p (avH p i j c))):=by
 refine⟨fun pins s σ H xs us Q I r h=>?_⟩
 obtain⟨i,j,c,rfl,⟨c0,c1⟩,q⟩:=h
 cases r with
 |cons r rr=>
  cases rr with
  |cons r' rr=>
   cases rr with
   |cons r'' rr=>
    cases rr
    obtain⟨t,rfl⟩:=r
    obtain⟨t',rfl⟩:=r'
    obtain⟨t'',rfl⟩:=r''
    exact call_range_3 (Int.ne_of_gt c0) (apK I q) (.inl (PyProof.noPylong_small (by omega)))
theorem arC{lo st:Int}:∀{n:Nat} {acc:Array Value},ItemsOf (fun i v=>∃t,v=.int (lo+i*st) t) acc n->Vals ((List.range n).map fun i:Nat=>V.int (lo+i*st)) acc.toList:=by
 intro n acc h
 obtain⟨hz,hi⟩:=h
 have key:∀(m:Nat),m<=n->Vals ((List.range m).map fun i:Nat=>V.int (lo+i*st)) (acc.toList.take m):=by
  intro m
  induction m with
  |zero=>intro _;exact .nil
  |succ m ih=>
   intro hm
   have hlt:m<acc.toList.length:=by rw[Array.length_toList];omega
   obtain⟨t,e⟩:=hi m acc.toList[m] (by rw[←Array.getElem?_toList];exact List.getElem?_eq_getElem hlt)
   rw[List.range_succ,List.map_append,List.take_succ,List.getElem?_eq_getElem hlt]
   exact (ih (by omega)).append (.cons ⟨t,e⟩ .nil)
 have:=key n (Nat.le_refl _)
 rwa [List.take_of_length_le (by rw[Array.length_toList];omega)] at this
theorem cLR(hc:X.calm=true:=by rfl):Cl1 X (.type "list") (fun xs H Q=>∃(p:Addr) (lo hi st:Int) (n:Nat),xs=[.ref p]/\H p=some (avH p lo hi st)/\Builtin.Range.small lo hi st=true/\Builtin.Range.rangeSize lo hi st=(n:Int)/\n<=100000/\
  ∀l,H l=none->Q (.ref l) (upd H l (.lst ((List.range n).map fun i:Nat=>V.int (lo+i*st))))):=by
 refine⟨fun pins s σ H xs us Q I r h=>?_⟩
 obtain⟨p,lo,hi,st,n,rfl,hp,hs,hn,hl,q⟩:=h
 obtain⟨u,rfl,rx⟩:=abT r
 cases rx
 obtain⟨⟨t,u,v,e⟩,_,_⟩:=I.hok p _ hp
 refine call_list_range (I.ok.hd hc) e hs hn (Nat.le_trans hl (by decide)) fun h' tk acc c' kp hS hI=>?_
 have hz:((List.range n).map fun i:Nat=>V.int (lo+i*st)).length<=sizeLine:=by
  rw[List.length_map,List.length_range,sizeLine_eq]
  omega
 exact⟨.ref s.heap.objs.size,_,I.laid (t':=tk) kp (Nat.le_refl _) (show ObjOk X.prog X.w _ h' _ (.lst _) from ⟨hz,acc.toList,c',arC hI,by simpa using hS⟩),rfl,q _ (I.hok.fresh (Nat.le_refl _))⟩
def rBL:V->List V->Hp->VK->Prop:=fun x vs H Q=>∃i,x=.int i/\vs=[]/\Q (.int (Builtin.Int.intBits i:Nat)) H
theorem aO3:MtR X "int.bit_length" rBL:=by
 intro pins s σ H x xs v us Q I rx rv h
 obtain⟨i,rfl,rfl,q⟩:=h
 cases rv
 obtain⟨t,rfl⟩:=rx
 exact call_int_bit_length ⟨.int _,H,I.tok _,⟨_,rfl⟩,q⟩
theorem eBL{o:Expr}{to:TE}{apos cpos:Pos}(ho:E X o to)(hbase:attributeBase o "bit_length" X.env (eval o X.env)=eval o X.env:=by rfl)(hline:(apos.endLine==cpos.line)=true:=by rfl):
  E X (.Call (.Attribute o "bit_length" apos) [] [] cpos) (aOI X.K "int" rBL to):=⟨aIK PySem.F.plainAttrs_int PySem.F.slot_int_bit_length PySem.F.type_int_bit_length aO3 ho.h hbase hline⟩
theorem aeA:Op2 X (compareOp .Is) (fun x y H Q=>y=.non/\Q (.bl (decide (x=.non))) H):=⟨aHI⟩
theorem aEA:Op2 X (compareOp .IsNot) (fun x y H Q=>y=.non/\Q (.bl (!decide (x=.non))) H):=⟨azL⟩
theorem oIn:Op2 X (compareOp .In) (rIn X.K false):=⟨asU⟩
end
theorem Same.none{H H':Hp}{D:Addr}(s:Same H H')(h:H' D=none):H D=none:=by
 cases e:H D with
 |none=>rfl
 |some o=>exact absurd (h.symm.trans (s _ _ e)) (by simp)
def Keep(H H':Hp):Prop:=∀b o,(∀xs,o≠ .lst xs)->H b=some o->H' b=some o
theorem Same.keep{H H':Hp}(s:Same H H'):Keep H H':=fun b o _ h=>s b o h
theorem Keep.trans{H H1 H2:Hp}(a:Keep H H1)(b:Keep H1 H2):Keep H H2:=fun c o n h=>b c o n (a c o n h)
theorem ad5{H:Hp}{D:Addr}{l l':List V}(h:H D=some (.lst l)):Keep H (upd H D (.lst l')):=fun b o n hb=>by
 by_cases e:b=D
 ·subst e
  rw[h] at hb
  cases hb
  exact absurd rfl (n l)
 ·rw[aaG e]
  exact hb
theorem Keep.tup{H H':Hp}(k:Keep H H'){b:Addr}{xs:List V}(h:H b=some (.tup xs)):H' b=some (.tup xs):=k b _ (fun _ z=>nomatch z) h
theorem Keep.ins{H H':Hp}(k:Keep H H'){b C dx:Addr}{fs:List (Str×V)}(h:H b=some (.ins C dx fs)):H' b=some (.ins C dx fs):=k b _ (fun _ z=>nomatch z) h
section
variable{js:List Nat}{σ:St}{tt:TT}{te:TE}{Q:VK}{H1:Hp}
end
section
variable{X:Cx}{K:PySem.W.Frag}
theorem xTc(hK:X.K=K:=by rfl):Ixs X (aII K):=hK▸xT
end
inductive Kd where
 |int | bool | str | non | list | tuple | dict
def Kd.nm:Kd->String
 |.int=>"int" | .bool=>"bool" | .str=>"str" | .non=>"NoneType" | .list=>"list" | .tuple=>"tuple" | .dict=>"dict"
def Kd.isa:Kd->Kd->Bool
 |.int,.int=>true | .bool,.int=>true | .bool,.bool=>true | .str,.str=>true | .list,.list=>true | .tuple,.tuple=>true | .dict,.dict=>true | _,_=>false
def aL2(K:PySem.W.Frag)(H:Hp):V->Kd->Prop
 |.int _,k=>k=.int
 |.bl _,k=>k=.bool
 |.str _,k=>k=.str
 |.non,k=>k=.non
 |.ref a,k=>(k=.list/\∃xs,SqL K H a xs)∨(k=.tuple/\∃xs,SqT K H a xs)∨(k=.dict/\∃kvs,H a=some (.dK kvs))
 |_,_=>False
theorem cIs{X:Cx}:Cl1 X (.builtin "isinstance") (fun xs H Q=>∃(v:V) (n k:Kd),xs=[v,.ty n.nm]/\n.nm≠"NoneType"/\aL2 X.K H v k/\Q (.bl (Kd.isa k n)) H):=by
 refine⟨fun pins s σ H xs us Q I r h=>?_⟩
 obtain⟨v,n,k,rfl,hn,hk,q⟩:=h
 obtain⟨u,w',rfl,r1,r2⟩:=akD r
 cases r2
 have fin:∀tk,EP X pins σ Q (.bool (Kd.isa k n)) {s with toks:=tk}:=fun tk=>⟨.bl _,H,I.tok _,rfl,q⟩
 have fin0:EP X pins σ Q (.bool (Kd.isa k n)) s:=⟨.bl _,H,I,rfl,q⟩
 cases v with
 |int i=>
  obtain⟨t,rfl⟩:=r1
  cases (show k=Kd.int from hk)
  cases n with
  |int=>exact PySem.IsiPair.int_int fin0
  |bool=>exact PySem.IsiPair.int_bool (fin _)
  |str=>exact PySem.IsiPair.int_str (fin _)
  |list=>exact PySem.IsiPair.int_list (fin _)
  |tuple=>exact PySem.IsiPair.int_tuple (fin _)
  |dict=>exact PySem.IsiPair.int_dict (fin _)
  |non=>exact absurd rfl hn
 |bl b=>
  cases r1
  cases (show k=Kd.bool from hk)
  cases n with
  |int=>exact PySem.IsiPair.bool_int fin0
  |bool=>exact PySem.IsiPair.bool_bool fin0
  |str=>exact PySem.IsiPair.bool_str (fin _)
  |list=>exact PySem.IsiPair.bool_list (fin _)
  |tuple=>exact PySem.IsiPair.bool_tuple (fin _)
  |dict=>exact PySem.IsiPair.bool_dict (fin _)
  |non=>exact absurd rfl hn
 |str x=>
  obtain⟨t,rfl⟩:=r1
  cases (show k=Kd.str from hk)
  cases n with
  |int=>exact PySem.IsiPair.str_int (fin _)
  |bool=>exact PySem.IsiPair.str_bool (fin _)
  |str=>exact PySem.IsiPair.str_str fin0
  |list=>exact PySem.IsiPair.str_list (fin _)
  |tuple=>exact PySem.IsiPair.str_tuple (fin _)
  |dict=>exact PySem.IsiPair.str_dict (fin _)
  |non=>exact absurd rfl hn
 |non=>
  cases r1
  cases (show k=Kd.non from hk)
  cases n with
  |int=>exact PySem.IsiPair.NoneType_int (fin _)
  |bool=>exact PySem.IsiPair.NoneType_bool (fin _)
  |str=>exact PySem.IsiPair.NoneType_str (fin _)
  |list=>exact PySem.IsiPair.NoneType_list (fin _)
  |tuple=>exact PySem.IsiPair.NoneType_tuple (fin _)
  |dict=>exact PySem.IsiPair.NoneType_dict (fin _)
  |non=>exact absurd rfl hn
 |ref a=>
  cases r1
  rcases hk with ⟨rfl,ys,hq⟩ | ⟨rfl,ys,hq⟩ | ⟨rfl,kvs,hq⟩
  ·obtain⟨its,rv,pl,_⟩:=I.list hq
   obtain⟨o,ho,hc,_⟩:=pl.isList
   cases n with
   |int=>exact PySem.IsiPair.list_int ho hc (fin _)
   |bool=>exact PySem.IsiPair.list_bool ho hc (fin _)
   |str=>exact PySem.IsiPair.list_str ho hc (fin _)
   |list=>exact PySem.IsiPair.list_list ho hc fin0
   |tuple=>exact PySem.IsiPair.list_tuple ho hc (fin _)
   |dict=>exact PySem.IsiPair.list_dict ho hc (fin _)
   |non=>exact absurd rfl hn
  ·obtain⟨its,rv,⟨o,ho,hc,_⟩,_⟩:=I.tuple hq
   cases n with
   |int=>exact PySem.IsiPair.tuple_int ho hc (fin _)
   |bool=>exact PySem.IsiPair.tuple_bool ho hc (fin _)
   |str=>exact PySem.IsiPair.tuple_str ho hc (fin _)
   |list=>exact PySem.IsiPair.tuple_list ho hc (fin _)
   |tuple=>exact PySem.IsiPair.tuple_tuple ho hc fin0
   |dict=>exact PySem.IsiPair.tuple_dict ho hc (fin _)
   |non=>exact absurd rfl hn
  ·obtain⟨_,_,_,_,o,_,_,ho,ex,_⟩:=I.hok a _ hq
   cases n with
   |int=>exact PySem.IsiPair.dict_int ho ex.1 (fin _)
   |bool=>exact PySem.IsiPair.dict_bool ho ex.1 (fin _)
   |str=>exact PySem.IsiPair.dict_str ho ex.1 (fin _)
   |list=>exact PySem.IsiPair.dict_list ho ex.1 (fin _)
   |tuple=>exact PySem.IsiPair.dict_tuple ho ex.1 (fin _)
   |dict=>exact PySem.IsiPair.dict_dict ho ex.1 fin0
   |non=>exact absurd rfl hn
 |byt b=>exact False.elim hk
 |flt b=>exact False.elim hk
 |ty n=>exact False.elim hk
end L2
namespace L2
open PySem PySem.Spec PyProof.Rows PySem.Builtin PySem.Builtin.Str
abbrev Tx(l:List Nat):Str:=⟨l.toArray⟩
theorem Tx_inj{a b:List Nat}:Tx a=Tx b↔a=b:=⟨fun h=>by
 have:(Tx a).cps.toList=(Tx b).cps.toList:=by rw[h]
 simpa using this,fun h=>by rw[h]⟩
theorem aD4(x:Str):Tx x.cps.toList=x:=by cases x;simp
theorem abA(a:List Nat):(Tx a).length=a.length:=by simp[Str.length]
def Itx(x:Str):It:=⟨fun i _=>i<x.cps.size,fun i H v H'=>H'=H/\∃c,x.cps[i]? =some c/\v=.str ⟨#[c]⟩,fun i _=>i=x.cps.size⟩
theorem atW{P:Program}{w:World}{K:PySem.W.Frag}{tg:Expr}(x:Str)(t:Tok)(it:Addr):Turn P w K tg (Itx x) [it] it (fun i h=>h.IsStrIter it "str_ascii_iterator" x t i) where
 mem:=by simp
 obj:=fun i h st b hb=>by
  have e:b=it:=by simpa using hb
  subst e
  obtain⟨o,e,c,d⟩:=st
  exact⟨o,e,fun v z=>by rw[d] at z;cases z⟩
 keep:=fun i h h' st k=>by
  obtain⟨o,e,r⟩:=st
  exact⟨o,k it (by simp) o e,r⟩
 item:=by
  intro X hP hw hK hc i pins s σ H E I hf st hg
  subst hP hw hK
  obtain⟨f0,f1,f2,f3,f4,f5⟩:=hf it (by simp)
  have hg:i<x.cps.size:=hg
  refine wpAny_pyNext_ascii_item st (c:=x.cps[i]) (by simp[hg]) fun h' st' sb=>?_
  have I1:Inv X pins σ H {s with heap:=h',toks:=s.toks+1}:=I.turned (fun b o hb e=>sb.extBut b o hb e) f0 f1 f3 f4 f5
  obtain⟨o,e,c,d⟩:=id st'
  exact⟨_,rfl,an5 (s:={s with heap:=h',toks:=s.toks+1}) e c d (by decide) ⟨.str ⟨#[x.cps[i]]⟩,H,I1,⟨_,rfl⟩,⟨rfl,x.cps[i],by simp[hg],rfl⟩,st',fun b hb=>(hf b hb).1⟩⟩
 done:=by
  intro X hP hw hK hc i pins s σ H E I hf st hg
  subst hP hw hK
  obtain⟨f0,f1,f2,f3,f4,f5⟩:=hf it (by simp)
  have hg:i=x.cps.size:=hg
  exact wpAny_pyNext_ascii_end (I.ok.hd hc) st (by simp[hg]) fun h' eb=>⟨rfl,I.turned (t':=s.toks) (fun b o hb e=>eb b o hb e) f0 f1 f3 f4 f5⟩
 self:=fun _ _ _ _ _ st h=>wpAny_pyIter_striter_ascii st h
theorem asY{P:Program}{w:World}{K:PySem.W.Frag}{tg:Expr}(x:Str)(t:Tok)(it:Addr):Turn P w K tg (Itx x) [it] it (fun i h=>h.IsStrIter it "str_iterator" x t i) where
 mem:=by simp
 obj:=fun i h st b hb=>by
  have e:b=it:=by simpa using hb
  subst e
  obtain⟨o,e,c,d⟩:=st
  exact⟨o,e,fun v z=>by rw[d] at z;cases z⟩
 keep:=fun i h h' st k=>by
  obtain⟨o,e,r⟩:=st
  exact⟨o,k it (by simp) o e,r⟩
 item:=by
  intro X hP hw hK hc i pins s σ H E I hf st hg
  subst hP hw hK
  obtain⟨f0,f1,f2,f3,f4,f5⟩:=hf it (by simp)
  have hg:i<x.cps.size:=hg
  refine wpAny_pyNext_wide_item st (c:=x.cps[i]) (by simp[hg]) fun h' st' sb=>?_
  have I1:Inv X pins σ H {s with heap:=h',toks:=s.toks+1}:=I.turned (fun b o hb e=>sb.extBut b o hb e) f0 f1 f3 f4 f5
  obtain⟨o,e,c,d⟩:=id st'
  exact⟨_,rfl,an5 (s:={s with heap:=h',toks:=s.toks+1}) e c d (by decide) ⟨.str ⟨#[x.cps[i]]⟩,H,I1,⟨_,rfl⟩,⟨rfl,x.cps[i],by simp[hg],rfl⟩,st',fun b hb=>(hf b hb).1⟩⟩
 done:=by
  intro X hP hw hK hc i pins s σ H E I hf st hg
  subst hP hw hK
  obtain⟨f0,f1,f2,f3,f4,f5⟩:=hf it (by simp)
  have hg:i=x.cps.size:=hg
  exact wpAny_pyNext_wide_end (I.ok.hd hc) st (by simp[hg]) fun h' eb=>⟨rfl,I.turned (t':=s.toks) (fun b o hb e=>eb b o hb e) f0 f1 f3 f4 f5⟩
 self:=fun _ _ _ _ _ st h=>wpAny_pyIter_striter_wide st h
section
variable{X:Cx}{tg:Expr}
def iTxt(tl:TE):TI:=fun σ H R=>tl σ H fun x H1=>∃z,x=.str z/\R (Itx z) H1
theorem iX{l:Expr}{tl:TE}(hl:E X l tl):Il X tg l (iTxt tl):=by
 refine⟨fun pins s σ H R I h=>?_⟩
 refine thn (hl.h pins s σ H _ I h) fun u s1 ⟨x,H1,I1,r1,q1⟩=>?_
 obtain⟨z,rfl,q⟩:=q1
 obtain⟨t,rfl⟩:=r1
 have fp:∀b∈[s1.heap.objs.size],adE X pins H1 b:=fun b hb=>by
  have e:b=s1.heap.objs.size:=by simpa using hb
  subst e
  exact I1.fpOk (Nat.le_refl _) (I1.hok.fresh (Nat.le_refl _))
 cases ha:z.cps.all (·<128)
 ·exact wpAny_pyIter_wide ha ⟨s1.heap.objs.size,[s1.heap.objs.size],_,_,H1,rfl,I1.kept (t':=s1.toks) fun b o e=>Heap.get?_push_of_some _ e,asY z t _,⟨_,Heap.get?_push_size _ rfl,rfl,rfl⟩,fp,q⟩
 ·exact wpAny_pyIter_ascii ha ⟨s1.heap.objs.size,[s1.heap.objs.size],_,_,H1,rfl,I1.kept (t':=s1.toks) fun b o e=>Heap.get?_push_of_some _ e,atW z t _,⟨_,Heap.get?_push_size _ rfl,rfl,rfl⟩,fp,q⟩
end
section
variable{js:List Nat}{σ:St}{tt:TT}{te:TE}{Q:VK}{H1:Hp}
theorem auJ{xs:List Nat}(R:Nat->List V->Prop)(hn:xs.length<=sizeLine)(h0:R 0 [])
  (hs:∀(i:Nat) (c:Nat) (l:List V) (D:Addr) (H2:Hp) (E:V->Hp->Prop) (F:Hp->Prop),xs[i]? =some c->R i l->H1 D=none->Same H1 H2->H2 D=some (.lst l)->(∀y H5,Same H2 H5->R (i+1) (l++[y])->E y H5)->(∀H4,Same H2 H4->R (i+1) l->F H4)->
   tt (some (.str (Tx [c]))::aaV js σ) H2 fun b H4=>if b=true then te (some (.str (Tx [c]))::aaV js σ) H4 E else F H4)
  (hd:∀(D:Addr) (H2:Hp) (l:List V),R xs.length l->H1 D=none->Same H1 H2->H2 D=some (.lst l)->Q (.ref D) H2):asJ (Itx (Tx xs)) js σ tt te Q H1:=by
 intro D hD
 have hz:(Tx xs).cps.size=xs.length:=by simp
 refine⟨fun i m H2=>m=xs.length-i/\i<=xs.length/\Same H1 H2/\∃l,H2 D=some (.lst l)/\l.length<=i/\R i l,⟨xs.length,by simp,Nat.zero_le _,aaB hD _,[],aaA,Nat.le_refl _,h0⟩,?_⟩
 rintro i m H2 ⟨rfl,hi,s2,l,h2,hll,hR⟩
 by_cases hlt:i<xs.length
 ·refine .inr ⟨show i<(Tx xs).cps.size by rw[hz];exact hlt,fun v H3 y=>?_⟩
  obtain⟨e,c,ec,ev⟩:=y
  subst e ev
  refine hs i c l D _ _ _ (by simpa using ec) hR hD s2 h2 (fun z H5 s5 r5=>?_) (fun H4 s4 r4=>?_)
  ·refine⟨l,s5 _ _ h2,Nat.lt_of_le_of_lt hll (Nat.lt_of_lt_of_le hlt hn),xs.length-(i+1),by omega,rfl,hlt,fun b o hb=>?_,l++[z],aaA,by rw[List.length_append,List.length_singleton];omega,r5⟩
   rw[aaG (aaK hb hD)]
   exact s5 _ _ (s2 _ _ hb)
  ·exact⟨xs.length-(i+1),by omega,rfl,hlt,s2.trans s4,l,s4 _ _ h2,by omega,r4⟩
 ·have e:i=xs.length:=by omega
  subst e
  exact .inl ⟨show xs.length=(Tx xs).cps.size by rw[hz],hd D H2 l hR hD s2 h2⟩
end
section
variable{X:Cx}
theorem aoX{prog:Program}{w:World}{A:Around}{its:Array Value}{bs:List Bool}(r:Vals (bs.map V.bl) its.toList):TruthOf prog w A (fun i v=>its[i]? =some v) (fun i=>bs.getD i false):=by
 intro i v s Q E hv hq
 have hv':its.toList[i]? =some v:=by rw[Array.getElem?_toList];exact hv
 have hi:i<bs.length:=by
  have h1:=r.length
  rw[List.length_map] at h1
  rcases Nat.lt_or_ge i its.toList.length with z | z
  ·omega
  ·rw[List.getElem?_eq_none z] at hv';cases hv'
 obtain⟨u,hu,ru⟩:=r.get (i:=i) (x:=V.bl bs[i]) (by rw[List.getElem?_map,List.getElem?_eq_getElem hi];rfl)
 rw[hv'] at hu
 cases hu
 cases ru
 have e:bs.getD i false=bs[i]:=by simp[List.getD,List.getElem?_eq_getElem hi]
 have hq:Q (bs.getD i false) s:=hq
 rw[e] at hq
 exact wpAny_truthy_bool hq
theorem atL(bs:List Bool):(List.range bs.length).all (fun i=>bs.getD i false)=bs.all id:=by
 rw[Bool.eq_iff_iff,List.all_eq_true,List.all_eq_true]
 refine⟨fun h b hb=>?_,fun h i hi=>?_⟩
 ·obtain⟨i,hi,e⟩:=List.getElem_of_mem hb
  have:=h i (List.mem_range.mpr hi)
  rw[show bs.getD i false=bs[i] by simp[List.getD,List.getElem?_eq_getElem hi],e] at this
  exact this
 ·have hi:=List.mem_range.mp hi
  rw[show bs.getD i false=bs[i] by simp[List.getD,List.getElem?_eq_getElem hi]]
  exact h _ (List.getElem_mem hi)
theorem cAll(hc:X.calm=true:=by rfl):Cl1 X (.builtin "all") (fun xs H Q=>∃(p:Addr) (bs:List Bool),xs=[.ref p]/\SqL X.K H p (bs.map V.bl)/\Q (.bl (bs.all id)) H):=by
 refine⟨fun pins s σ H xs us Q I r h=>?_⟩
 obtain⟨p,bs,rfl,hq,q⟩:=h
 obtain⟨u,rfl,r1⟩:=abT r
 cases r1
 obtain⟨its,rv,pl,hz⟩:=I.list hq
 have hne:p≠s.heap.objs.size:=by
  obtain⟨o,ho,_⟩:=pl.isList
  exact Nat.ne_of_lt (Heap.lt_size ho)
 refine call_all_walk (wpAny_pyIter_list pl.isList ⟨s.heap.objs.size,[s.heap.objs.size,p],[s.heap.objs.size],its.toArray.size,(fun i v=>its.toArray[i]? =some v),(fun i h=>h.IsListIter s.heap.objs.size p i/\h.IsList p its.toArray),(fun i=>bs.getD i false),rfl,Walks.list (prog:=X.prog) (w:=X.w) (A:=X.A.in1) (I.ok.hd hc) _ p hne its.toArray,⟨⟨_,Heap.get?_push_size _ rfl,rfl,rfl⟩,pl.isList.push _⟩,aoX (by simpa using rv),fun h' tk hk=>?_⟩)
 have hl:=rv.length
 rw[List.length_map] at hl
 have e:its.toArray.size=bs.length:=by rw[List.size_toArray];omega
 rw[e,atL]
 exact⟨.bl _,H,I.kept fun b o eb=>hk b o (by simpa using Nat.ne_of_lt (Heap.lt_size eb)) (Heap.get?_push_of_some _ eb),rfl,q⟩
end
end L2
namespace L2
open PySem PySem.Spec PyProof.Rows PySem.Builtin PySem.Builtin.Str
def spl(c:Nat):List Nat->List (List Nat)
 |[]=>[[]]
 |x::r=>if x=c then []::spl c r else match spl c r with
  |h::t=>(x::h)::t
  |[]=>[[x]]
def aaT(c:Nat):List (List Nat)->List Nat
 |[]=>[]
 |[p]=>p
 |p::r=>p++c::aaT c r
theorem aJE(c:Nat):∀l,spl c l≠[]
 |[]=>by simp[spl]
 |x::r=>by
  unfold spl
  split
  ·simp
  ·split<;>simp
theorem ac1(c:Nat):∀(p:List Nat),c∉p->spl c p=[p]
 |[],_=>rfl
 |x::r,h=>by
  have h1:¬x=c:=fun e=>h (by simp[e])
  have h2:=ac1 c r fun e=>h (by simp[e])
  unfold spl
  rw[if_neg h1,h2]
theorem aiV(c:Nat):∀(p r:List Nat),c∉p->spl c (p++c::r)=p::spl c r
 |[],r,_=>by
  show spl c (c::r)=_
  unfold spl
  rw[if_pos rfl]
  cases r<;>rfl
 |x::q,r,h=>by
  have h1:¬x=c:=fun e=>h (by simp[e])
  have h2:=aiV c q r fun e=>h (by simp[e])
  show spl c (x::(q++c::r))=_
  rw[spl,if_neg h1,h2]
theorem adV(c:Nat):∀(ps:List (List Nat)),ps≠[]->(∀p∈ps,c∉p)->spl c (aaT c ps)=ps
 |[],h,_=>absurd rfl h
 |[p],_,h=>ac1 c p (h p (by simp))
 |p::q::r,_,h=>by
  show spl c (p++c::aaT c (q::r))=_
  rw[aiV c p _ (h p (by simp)),adV c (q::r) (by simp) fun z hz=>h z (List.mem_cons_of_mem _ hz)]
theorem amY(c:Nat):∀ps:List Str,(Str.join (Tx [c]) ps).cps.toList=aaT c (ps.map (·.cps.toList))
 |[]=>rfl
 |[p]=>rfl
 |p::q::r=>by
  have ih:=amY c (q::r)
  show (p++Tx [c]++Str.join (Tx [c]) (q::r)).cps.toList=p.cps.toList++c::aaT c ((q::r).map (·.cps.toList))
  rw[←ih]
  show ((p.cps++ #[c])++(Str.join (Tx [c]) (q::r)).cps).toList=_
  simp
theorem awL(x y:Str)(h:Txt.split x y=[]):False:=by
 unfold Txt.split at h
 split at h
 ·cases h
 ·split at h
  ·cases h
  ·have e:=congrArg List.length h
   rw[length_partsBetween] at e
   simp at e
theorem axW(l:List Nat)(c:Nat):(Txt.split (Tx l) (Tx [c])).map (·.cps.toList)=spl c l:=by
 have h1:=StrLaws.join_split (Tx l) (Tx [c])
 have h2:=StrLaws.split_free (Tx l) c
 have h3:=amY c (Txt.split (Tx l) (Tx [c]))
 rw[h1] at h3
 have e:aaT c ((Txt.split (Tx l) (Tx [c])).map (·.cps.toList))=l:=by rw[←h3]
 rw[←adV c ((Txt.split (Tx l) (Tx [c])).map (·.cps.toList)) (fun z=>awL _ _ (List.map_eq_nil_iff.mp z)) ?_,e]
 intro p hp
 obtain⟨z,hz,rfl⟩:=List.mem_map.mp hp
 exact h2 z hz
theorem atR(l:List Nat)(c:Nat):Txt.split (Tx l) (Tx [c])=(spl c l).map Tx:=by
 rw[←axW,List.map_map]
 have:∀ps:List Str,ps=ps.map ((fun w:List Nat=>Tx w) ∘ fun x=>x.cps.toList):=fun ps=>by
  induction ps with
  |nil=>rfl
  |cons a r ih=>rw[List.map_cons,←ih];simp
 exact this _
theorem alR:∀l:List (Str×Tok),Vals (l.map fun p=>V.str p.1) (strValues l)
 |[]=>.nil
 |p::r=>.cons ⟨p.2,rfl⟩ (alR r)
section
variable{prog:Program}{w:World}{A:Around}{E:Value->Shared->Prop}{s:Shared}{x y:Str}{t u:Tok}{Q:Value->Shared->Prop}
theorem aq2(hy:(y.length==0)=false)(hsz:x.length+2<=sizeLine)
  (h:∀l k,l.map (·.1)=Txt.split x y->Q (.ref s.heap.objs.size) {s with heap:=s.heap.push {cls:=.type "list",data:=.seq (strValues l).toArray},toks:=k}):
  wpAny (model prog w) A (call (.builtin "str.split") [.str x t,.str y u]) Q E s:=by
 have hn:(partsBetween x (occurrences x y 0 x.length (x.length+1)) y.length).length<=sizeLine:=by
  have e1:=StrLaws.occ_length_le x y 0 x.length (x.length+1)
  rw[length_partsBetween];omega
 cases h1:(decide (x.length<y.length)||decide (strKind x<strKind y))
 ·cases hf:(occurrences x y 0 x.length (x.length+1)).isEmpty
  ·refine call_meets F.slot_str_split (typeIs_str _ _ _) F.entry_str_split (F.args_str_split_2 _ _) (meets_str_split_sep x y t u h1 hy hf (by omega) hn) ?_
   show wants Q E _ {s with toks:=_,heap:=s.heap.push {cls:=.type "list",data:=.seq (strsFrom s.toks (partsBetween x (occurrences x y 0 x.length (x.length+1)) y.length)).toArray} }
   rw[strsFrom_eq]
   exact h (numbered s.toks _) _ ((numbered_texts _ _).trans ((if_neg (ne_true_of_eq_false h1)).trans (if_neg (ne_true_of_eq_false hf))).symm)
  ·exact call_meets F.slot_str_split (typeIs_str _ _ _) F.entry_str_split (F.args_str_split_2 _ _) (meets_str_split_not_found x y t u h1 hy hf)
    (h [(x,t)] s.toks ((if_neg (ne_true_of_eq_false h1)).trans (if_pos hf)).symm)
 ·exact call_meets F.slot_str_split (typeIs_str _ _ _) F.entry_str_split (F.args_str_split_2 _ _) (meets_str_split_cannot_occur x y t u h1)
   (h [(x,t)] s.toks (if_pos h1).symm)
end
theorem af6(c:Nat):∀l,(spl c l).length<=l.length+1
 |[]=>by simp[spl]
 |x::r=>by
  have ih:=af6 c r
  unfold spl
  split
  ·simp;omega
  ·split
   ·rename_i e;rw[e] at ih;simp at ih ⊢;omega
   ·simp
section
variable{X:Cx}
def avE:V->List V->Hp->VK->Prop:=fun x vs H Q=>∃(l:List Nat) (c:Nat),x=.str (Tx l)/\vs=[.str (Tx [c])]/\l.length+2<=sizeLine/\∀p,H p=none->Q (.ref p) (upd H p (.lst ((spl c l).map fun q=>V.str (Tx q))))
theorem awR:MtR X "str.split" avE:=by
 intro pins s σ H x xs v us Q I rx rv h
 obtain⟨l,c,rfl,rfl,hz,q⟩:=h
 obtain⟨u,rfl,t',rfl⟩:=abT rv
 obtain⟨t,rfl⟩:=rx
 refine aq2 (by rfl) (by rw[abA];exact hz) fun ps k e=>?_
 have e2:ps.map (fun p=>V.str p.1)=(spl c l).map fun q=>V.str (Tx q):=by
  have:=congrArg (List.map V.str) e
  rw[atR,List.map_map,List.map_map] at this
  exact this
 have hl:((spl c l).map fun q=>V.str (Tx q)).length<=sizeLine:=by
  have:=af6 c l
  rw[List.length_map]
  omega
 refine⟨.ref s.heap.objs.size,upd H s.heap.objs.size (.lst ((spl c l).map fun q=>V.str (Tx q))),I.laid (t':=k) (fun b u e=>Heap.get?_push_of_some _ e) (Nat.le_refl _) ?_,rfl,q _ (I.hok.fresh (Nat.le_refl _))⟩
 exact⟨hl,strValues ps,0,by rw[←e2];exact alR ps,Heap.get?_push_size _ rfl⟩
theorem asW{o e:Expr}{to te:TE}{apos cpos:Pos}(ho:E X o to)(he:E X e te)(hbase:attributeBase o "split" X.env (eval o X.env)=eval o X.env:=by rfl)
  (hfew:((backTo cpos (starEach [e] X.env)).all (fun x=> !x.1)&&(backToKw cpos (keywordEach [] X.env)).all (fun x=>x.1.isSome)&&decide (([e]:List Expr).length+([]:List Keyword).length+(if ([]:List Keyword).isEmpty then 0 else 1)<30))=true:=by rfl)
  (hline:(apos.endLine==cpos.line)=true:=by rfl) (hs:starEach [e] X.env=(false,eval e X.env)::starEach [] X.env:=by rfl) (hplain:(backTo cpos (starEach [] X.env)).any (·.1)=false:=by rfl):
  E X (.Call (.Attribute o "split" apos) [e] [] cpos) (tBM X.K "str" avE to (ahJ te ak0)):=
 ⟨an4 PySem.F.plainAttrs_str PySem.F.slot_str_split PySem.F.type_str_split awR ho.h (acN he.h ad0 hs) hbase hfew hline hs hplain⟩
theorem oInX:Op2 X (compareOp .In) (fun x y H Q=>∃(c:Nat) (l:List Nat),x=.str (Tx [c])/\y=.str (Tx l)/\Q (.bl (decide (c∈l))) H):=by
 refine⟨fun pins s σ H x y v u Q I rx ry h=>?_⟩
 obtain⟨c,l,rfl,rfl,q⟩:=h
 refine as9 pins s σ H _ _ v u Q I rx ry ⟨_,_,rfl,rfl,?_⟩
 rw[show (!(occurrences (Tx l) (Tx [c]) 0 (Tx l).length 1).isEmpty)=decide (c∈(Tx l).cps.toList) from StrLaws.found_one (Tx l) c]
 exact q
theorem at5:Cl1 X (.builtin "len") (fun xs H Q=>∃l:List Nat,xs=[.str (Tx l)]/\l.length<=sizeLine/\Q (.int l.length) H):=by
 refine⟨fun pins s σ H xs us Q I r h=>?_⟩
 obtain⟨l,rfl,hz,q⟩:=h
 refine anY pins s σ H _ us Q I r ⟨Tx l,rfl,by rw[abA];exact hz,?_⟩
 rw[abA]
 exact q
theorem acL:Op2 X (binaryOp .Add) (fun x y H Q=>∃a b:List Nat,x=.str (Tx a)/\y=.str (Tx b)/\a.length+b.length<=sizeLine/\Q (.str (Tx (a++b))) H):=by
 refine⟨fun pins s σ H x y v u Q I rx ry h=>?_⟩
 obtain⟨a,b,rfl,rfl,hz,q⟩:=h
 refine ap2 pins s σ H _ _ v u Q I rx ry ⟨_,_,rfl,rfl,by rw[abA,abA];exact hz,?_⟩
 have e:Tx a++Tx b=Tx (a++b):=by show Str.mk _=Str.mk _;simp
 rw[e]
 exact q
theorem xX:Ixs X (fun x y H Q=>∃(l:List Nat) (i:Int) (c:Nat),x=.str (Tx l)/\y=.int i/\l.length<=sizeLine/\atI l i=some c/\Q (.str (Tx [c])) H):=by
 refine⟨fun value slice pins s σ H x y v u Q I rx ry h hs=>?_⟩
 obtain⟨l,i,c,rfl,rfl,hz,ha,q⟩:=h
 exact aKO value slice pins s σ H _ _ v u Q I rx ry ⟨Tx l,i,c,rfl,rfl,by rw[abA];exact hz,by simpa using ha,q⟩ hs
end
end L2
namespace L2
open PySem PySem.Spec PyProof.Rows PySem.Builtin PySem.Builtin.Str
section
variable{X:Cx}{pins:List (Addr×Obj)}{σ:St}{H:Hp}{s:Shared}{h':Heap}
theorem Inv.turnT{ch:List Addr}{T:Addr}{o:HO}{t':Nat}(I:Inv X pins σ H s)(k:∀b u,b∉ch->s.heap.get? b=some u->h'.get? b=some u)(hch:∀b∈ch,adE X pins H b)(hT:s.heap.objs.size<=T)(new:ObjOk X.prog X.w (upd H T o) h' T o):
  Inv X pins σ (upd H T o) {s with heap:=h',toks:=t'}:=by
 have hn:=I.hok.fresh hT
 have nit:∀b u,H b=some u->b∉ch:=fun b u e z=>by rw[(hch b z).1] at e;cases e
 refine I.step (g':=s.gens) (d':=s.drawn) (ch:=ch) (fun b hb=>?_) (fun b u _ _ hc e _=>k b u hc e) (fun b u _ _ hc e _=>⟨u.slots,k b u hc e⟩) (fun b u _ e n=>?_)
  (fun b u hc e=>⟨u,k b u hc e⟩) (fun b xs e=>by rw[aaG (aaK e hn)];exact e) (fun b u xs e=>by rw[aaG (aaK e hn)];exact e) (fun b ps e=>⟨#[],by rw[aaG (aaK e hn),e];simp⟩) (fun m hm=>?_) (fun b u e=>?_) I.bare
 ·obtain⟨f0,f1,f2,f3,f4,f5⟩:=hch b hb
  exact⟨f3,f1,f4,f5⟩
 ·rw[aaG (Nat.ne_of_lt (Nat.lt_of_lt_of_le (Heap.lt_size e) hT))]
  exact n
 ·obtain⟨ob,es,ep,ho,r⟩:=hm
  exact⟨ob,es,ep,k _ ob (fun z=>(hch _ z).2.1 rfl) ho,r⟩
 ·by_cases hb:b=T
  ·subst hb;rw[aaA] at e;cases e;exact new
  ·rw[aaG hb] at e
   refine (I.hok b u e).stay (fun c v hc q=>k c v ?_ q) (fun c q=>by rw[aaG (aaK q hn)];exact q) fun c xs q=>by rw[aaG (aaK q hn)];exact q
   rcases hc with z | z
   ·rw[z];exact nit b u e
   ·exact nit c _ z
theorem Inv.turnN{ch:List Addr}{t':Nat}(I:Inv X pins σ H s)(k:∀b u,b∉ch->s.heap.get? b=some u->h'.get? b=some u)(hch:∀b∈ch,adE X pins H b):Inv X pins σ H {s with heap:=h',toks:=t'}:=by
 have nit:∀b u,H b=some u->b∉ch:=fun b u e z=>by rw[(hch b z).1] at e;cases e
 refine I.step (g':=s.gens) (d':=s.drawn) (ch:=ch) (fun b hb=>?_) (fun b u _ _ hc e _=>k b u hc e) (fun b u _ _ hc e _=>⟨u.slots,k b u hc e⟩) (fun b u _ e n=>n)
  (fun b u hc e=>⟨u,k b u hc e⟩) (fun b xs e=>e) (fun b u xs e=>e) (fun b ps e=>⟨#[],by rw[e];simp⟩) (fun m hm=>?_) (fun b u e=>?_) I.bare
 ·obtain⟨f0,f1,f2,f3,f4,f5⟩:=hch b hb
  exact⟨f3,f1,f4,f5⟩
 ·obtain⟨ob,es,ep,ho,r⟩:=hm
  exact⟨ob,es,ep,k _ ob (fun z=>(hch _ z).2.1 rfl) ho,r⟩
 ·refine (I.hok b u e).stay (fun c v hc q=>k c v ?_ q) (fun c q=>q) fun c xs q=>q
  rcases hc with z | z
  ·rw[z];exact nit b u e
  ·exact nit c _ z
end
def Ite(K:PySem.W.Frag)(a:Addr):It:=
 ⟨fun i H=>∃xs x,SqL K H a xs/\xs[i]? =some x,fun i H v H'=>∃T,v=.ref T/\H T=none/\∀xs,SqL K H a xs->∃x,xs[i]? =some x/\H'=upd H T (.tup [.int i,x]),fun i H=>∃xs,SqL K H a xs/\xs.length=i⟩
theorem atX{P:Program}{w:World}{K:PySem.W.Frag}{es:List Expr}{kk:Nat}{pos:Pos}(a e it:Addr)(hne:e≠it):Turn P w K (.Tuple es kk pos) (Ite K a) [e,it] e (fun i h=>(∃old,IsEnum h e it i old)/\h.IsListIter it a i) where
 mem:=by simp
 obj:=fun i h st b hb=>by
  obtain⟨⟨old,he⟩,o,e1,c,d⟩:=st
  rcases List.mem_cons.mp hb with z | z
  ·subst z
   exact⟨_,he,fun v q=>by
    have q':Data.fields _=Data.cell v:=q
    cases q'⟩
  ·have z:b=it:=by simpa using z
   subst z
   exact⟨o,e1,fun v q=>by rw[d] at q;cases q⟩
 keep:=fun i h h' st k=>by
  obtain⟨⟨old,he⟩,hit⟩:=st
  exact⟨⟨old,k e (by simp) _ he⟩,hit.at fun o q=>k it (by simp) o q⟩
 item:=by
  intro X hP hw hK hc i pins s σ H E I hf st hg
  subst hP hw hK
  obtain⟨xs,x,hq,hx⟩:=hg
  obtain⟨⟨old,he⟩,hit⟩:=st
  obtain⟨its,rv,p,hz⟩:=I.list hq
  obtain⟨u,hu,ru⟩:=rv.get hx
  refine wpAny_pyNext_enum_item he hit p.isList (x:=u) (by simpa using hu) hne fun h1 ho hit1 hT hsz hk=>?_
  refine⟨_,rfl,wpAny_letOwnedTupleGo_enum ho fun h2 he2 sb=>?_⟩
  have ele:e<s.heap.objs.size:=Heap.lt_size he
  have k2:∀b ob,b∉[e,it]->s.heap.get? b=some ob->h2.get? b=some ob:=fun b ob hb q=>by
   have n1:b≠e:=fun z=>hb (by simp[z])
   have n2:b≠it:=fun z=>hb (by simp[z])
   exact (sb.2 b n1).trans (hk b ob n1 n2 q)
  have hTn:s.heap.objs.size≠e:=Nat.ne_of_gt ele
  have hT2:h2.get? s.heap.objs.size=some {cls:=.type "tuple",data:=.seq #[.int i s.toks,u]}:=(sb.2 _ hTn).trans hT
  have hn:=I.hok.fresh (Nat.le_refl s.heap.objs.size)
  have I2:Inv X pins σ (upd H s.heap.objs.size (.tup [.int i,x])) {s with heap:=h2,toks:=s.toks+1}:=I.turnT k2 hf (Nat.le_refl _) ⟨by show 2<=sizeLine;decide,[.int i s.toks,u],.cons ⟨_,rfl⟩ (.cons ru .nil),⟨_,hT2,rfl,_,rfl⟩⟩
  refine⟨.ref s.heap.objs.size,_,I2,rfl,⟨s.heap.objs.size,rfl,hn,fun ys hy=>⟨x,by rw[I.list_inj hy hq];exact hx,rfl⟩⟩,⟨⟨_,by simpa using he2⟩,hit1.at fun o q=>(sb.2 it (Ne.symm hne)).trans q⟩,fun b hb=>?_⟩
  have hblt:b<s.heap.objs.size:=by
   rcases List.mem_cons.mp hb with z | z
   ·rw[z];exact ele
   ·have z:b=it:=by simpa using z
    obtain⟨o,q,_⟩:=hit
    rw[z];exact Heap.lt_size q
  rw[aaG (Nat.ne_of_lt hblt)]
  exact (hf b hb).1
 done:=by
  intro X hP hw hK hc i pins s σ H E I hf st hg
  subst hP hw hK
  obtain⟨xs,hq,hx⟩:=hg
  obtain⟨⟨old,he⟩,hit⟩:=st
  obtain⟨its,rv,p,hz⟩:=I.list hq
  have hl:=rv.length
  refine wpAny_pyNext_enum_end (I.ok.hd hc) he hit p.isList (by simp;omega) fun h' hk=>⟨rfl,?_⟩
  exact I.turnN (ch:=[e,it]) (t':=s.toks) (fun b ob hb q=>hk b ob (fun z=>hb (by simp[z])) q) hf
 self:=fun _ _ _ _ _ st h=>by
  obtain⟨⟨old,he⟩,_⟩:=st
  exact wpAny_pyIter_enum he h
section
variable{X:Cx}{es:List Expr}{kk:Nat}{tpos:Pos}
def iEnu(K:PySem.W.Frag)(tl:TE):TI:=fun σ H R=>tl σ H fun x H1=>∃a,x=.ref a/\(∃xs,SqL K H1 a xs)/\R (Ite K a) H1
theorem atB:bootBuiltins "enumerate"=some (.type "enumerate"):=by decide +kernel
theorem iE{l:Expr}{tl:TE}{p pos:Pos}(hm:X.mg "enumerate"=none)(hl:E X l tl)(hg:Gl X "enumerate":=by rfl)(hs:starEach [l] X.env=[(false,eval l X.env)]:=by rfl):
  Il X (.Tuple es kk tpos) (.Call (.Name "enumerate" p) [l] [] pos) (iEnu X.K tl):=by
 refine⟨fun pins s σ H R I h=>?_⟩
 have hA:PA X [l] (ahJ tl ak0):=acN hl.h ad0 hs
 refine Call_ (agQ I hg hm atB (PyProof.Rows.callWith_type1 (thn (hA pos pins s σ H (fun vs H1=>match vs with | [x]=>∃a,x=.ref a/\(∃xs,SqL X.K H1 a xs)/\R (Ite X.K a) H1 | _=>False) I ?_) fun us s1 ⟨vs,H1,I1,r1,q1⟩=>?_) hs rfl))
 ·exact h
 match vs,q1,r1 with
 |[x],q1,r1=>?_
 obtain⟨a,rfl,⟨xs,hq⟩,q⟩:=q1
 obtain⟨u,rfl,rx⟩:=abT r1
 cases rx
 obtain⟨its,rv,pl,hz⟩:=I1.list hq
 refine call_enumerate_list pl.isList fun h' he hit hsz hk=>?_
 refine wpAny_pyIter_enum he ?_
 have I2:Inv X pins σ H1 {s1 with heap:=h'}:=I1.kept (t':=s1.toks) hk
 have hne:s1.heap.objs.size+1≠s1.heap.objs.size:=Nat.ne_of_gt (Nat.lt_succ_self _)
 refine⟨s1.heap.objs.size+1,[s1.heap.objs.size+1,s1.heap.objs.size],_,_,H1,rfl,I2,atX a _ _ hne,⟨⟨_,he⟩,hit⟩,fun b hb=>?_,q⟩
 have hb2:s1.heap.objs.size<=b:=by
  rcases List.mem_cons.mp hb with z | z
  ·rw[z];exact Nat.le_succ _
  ·have z:b=s1.heap.objs.size:=by simpa using z
   rw[z];exact Nat.le_refl _
 exact I1.fpOk hb2 (I1.hok.fresh hb2)
end
theorem apP{K:PySem.W.Frag}{a:Addr}{xs:List V}{g:TG}{tb:TS}{D:Ends}{σ:St}{H:Hp}(Pv:Nat->St->Hp->Prop)(h0:Pv 0 σ H)(hl:∀i σ H,i<=xs.length->Pv i σ H->SqL K H a xs)
  (hs:∀i x σ H T,xs[i]? =some x->Pv i σ H->H T=none->g (.ref T) σ (upd H T (.tup [.int i,x])) fun σ2 H2=>tb {D with nx:=Pv (i+1),ct:=Pv (i+1),bk:=D.nx} σ2 H2) (hd:∀σ H,Pv xs.length σ H->D.nx σ H):
  ∃W:Nat->Nat->St->Hp->Prop,(∃m,W 0 m σ H)/\∀i m σ H,W i m σ H->
   ((Ite K a).stop i H/\D.nx σ H)∨((Ite K a).go i H/\∃N:St->Hp->Prop,(∀σ' H',N σ' H'->∃m',m'<m/\W (i+1) m' σ' H')/\∀x H',(Ite K a).yld i H x H'->g x σ H' fun σ2 H2=>tb {D with nx:=N,ct:=N,bk:=D.nx} σ2 H2):=by
 refine⟨fun i m σ H=>m=xs.length-i/\i<=xs.length/\Pv i σ H,⟨xs.length,by simp,Nat.zero_le _,h0⟩,?_⟩
 rintro i m σ H ⟨rfl,hi,p⟩
 have hq:=hl i σ H hi p
 by_cases hlt:i<xs.length
 ·refine .inr ⟨⟨xs,xs[i],hq,by simp[hlt]⟩,Pv (i+1),fun σ' H' p'=>⟨xs.length-(i+1),by omega,rfl,hlt,p'⟩,fun x H' y=>?_⟩
  obtain⟨T,rfl,hT,hy⟩:=y
  obtain⟨x,hx,rfl⟩:=hy xs hq
  exact hs i x σ H T hx p hT
 ·have e:i=xs.length:=by omega
  subst e
  exact .inl ⟨⟨xs,hq,rfl⟩,hd σ H p⟩
def num(m:Nat):List Nat:=(Nat.toDigits 10 m).map Char.toNat
section
variable{X:Cx}
theorem aN8:Cl1 X (.type "int") (fun xs H Q=>∃l:List Nat,xs=[.str (Tx l)]/\PySem.NumText.AllDigits l/\l≠[]/\l.length<=640/\Q (.int ((PySem.NumText.digitsVal l:Nat):Int)) H):=by
 refine⟨fun pins s σ H xs us Q I r h=>?_⟩
 obtain⟨l,rfl,h1,h2,h3,q⟩:=h
 obtain⟨u,rfl,t,rfl⟩:=abT r
 refine PySem.W.KIN.call_text (PySem.intText_digits (x:=Tx l) (by simpa using h1) (by simpa using h2) (by rw[abA];omega)) (by rw[abA];exact h3) ?_
 exact⟨.int _,H,I.tok _,⟨_,rfl⟩,by simpa using q⟩
theorem acP:Cl1 X (.type "str") (fun xs H Q=>∃n:Nat,xs=[.int n]/\n<10^500/\Q (.str (Tx (num n))) H):=by
 refine⟨fun pins s σ H xs us Q I r h=>?_⟩
 obtain⟨n,rfl,hn,q⟩:=h
 refine amM pins s σ H _ us Q I r ⟨(n:Int),rfl,?_,?_⟩
 ·by_cases h0:n=0
  ·subst h0;decide
  ·have:n<2^1900:=Nat.lt_of_lt_of_le hn (by decide +kernel)
   have:=(Nat.log2_lt h0).mpr this
   show (n:Int).natAbs.log2<1920
   simp only[Int.natAbs_natCast]
   omega
 ·have e:PySem.Str.ofString (toString (n:Int))=Tx (num n):=by
   rw[←aD4 (PySem.Str.ofString (toString (n:Int)))]
   exact congrArg (fun z=>Tx z) (PySem.W.KIN.signs_num n)
  show Q (.str (PySem.Str.ofString (toString (n:Int)))) H
  rw[e]
  exact q
end
end L2
namespace L2
open PySem PySem.Spec PyProof.Rows PySem.Builtin PySem.Builtin.Str
theorem ifT{b:Bool}{A B:Prop}(e:b=true)(h:A):if b=true then A else B:=by rw[if_pos e];exact h
theorem ifF{b:Bool}{A B:Prop}(e:b=false)(h:B):if b=true then A else B:=by rw[if_neg (by rw[e];exact Bool.false_ne_true)];exact h
theorem if2{b:Bool}{A B:Prop}(h1:b=true->A)(h2:b=false->B):if b=true then A else B:=by
 cases b
 ·exact ifF rfl (h2 rfl)
 ·exact ifT rfl (h1 rfl)
theorem av1(a b:List Nat):decide (V.str (Tx a)=V.str (Tx b))=decide (a=b):=decide_eq_decide.mpr ⟨fun h=>Tx_inj.mp (V.str.inj h),fun h=>by rw[h]⟩
section
variable{X:Cx}{pos:Pos}
theorem eSx{z:Str}{j}(l:List Nat)(h:z=Tx l:=by decide +kernel):E X (.Constant (.str z) j pos) (tC (.str (Tx l))):=by
 subst h
 exact⟨axZ⟩
end
def ae4(c:Nat):Bool:=decide (48<=c)&&decide (c<=57)
def aJ6:List Nat:=[48,49,50,51,52,53,54,55,56,57]
theorem au3(c:Nat):decide (c∈aJ6)=ae4 c:=by
 unfold aJ6 ae4
 rw[Bool.eq_iff_iff,decide_eq_true_eq,Bool.and_eq_true,decide_eq_true_eq,decide_eq_true_eq]
 simp
 omega
def al8(l:List Nat):Bool:= !decide (l=[])&&l.all ae4
def isW(l:List Nat):Bool:=al8 l&&(decide (l=[48])|| !decide (l.headD 0=48))
def dv(l:List Nat):Int:=((PySem.NumText.digitsVal l:Nat):Int)
def aaP(lo hi:Int)(l:List Nat):Option Int:=if isW l=true then (if lo<=dv l/\dv l<=hi then some (dv l) else none) else none
def oV:Option Int->V
 |none=>.non
 |some n=>.int n
def ahA(es:List (Option Int)):Option (Int×Int):=match es with
 |[some a]=>some (a,a)
 |[some a,some b]=>if b<a then none else some (a,b)
 |_=>none
def aaR(lo hi:Int)(l:List Nat):Option (Int×Int):=if l=[42] then some (lo,hi) else ahA ((spl 45 l).map (aaP lo hi))
@[irreducible] def acI(a b s:Int):List Int:=(List.range (Builtin.Range.rangeSize a (b+1) s).toNat).map fun i:Nat=>a+(i:Int)*s
theorem ab4(a b s:Int):acI a b s=(List.range (Builtin.Range.rangeSize a (b+1) s).toNat).map fun i:Nat=>a+(i:Int)*s:=by rw[acI]
def aiB(a b s:Int):Int:=aa3 (acI a b s)
def abD(lo hi:Int)(r s:List Nat):Option Int:=
 match aaR lo hi r,aaP 1 99 s with
 |some (a,b),some st=>some (aiB a (if isW r=true then hi else b) st)
 |_,_=>none
def aaH(lo hi:Int)(l:List Nat):Option Int:=
 match spl 47 l with
 |[r,s]=>abD lo hi r s
 |_=>match aaR lo hi l with
  |some (a,b)=>some (aiB a b 1)
  |none=>none
theorem arE{l:List Nat}(h:isW l=true):PySem.NumText.AllDigits l/\l≠[]:=by
 unfold isW al8 at h
 rw[Bool.and_eq_true,Bool.and_eq_true] at h
 refine⟨fun c hc=>?_,fun e=>?_⟩
 ·have:=List.all_eq_true.mp h.1.2 c hc
  unfold ae4 at this
  rw[Bool.and_eq_true] at this
  exact⟨of_decide_eq_true this.1,of_decide_eq_true this.2⟩
 ·rw[decide_eq_true e] at h
  exact absurd h.1.1 (by decide)
theorem aiQ{a b s:Int}(hs:0<s):Builtin.Range.rangeSize a (b+1) s=if a<=b then (b-a) / s+1 else 0:=by
 unfold Builtin.Range.rangeSize
 rw[if_pos hs]
 by_cases c:a<=b
 ·rw[if_pos c,if_pos (by omega),show b+1-a-1=b-a by omega]
 ·rw[if_neg c,if_neg (by omega)]
theorem amC{a b s z:Int}(hs:0<s):z∈acI a b s↔a<=z/\z<=b/\(z-a)%s=0:=by
 rw[ab4,List.mem_map,aiQ hs]
 refine⟨fun ⟨i,hi,e⟩=>?_,fun ⟨h1,h2,h3⟩=>?_⟩
 ·subst e
  by_cases c:a<=b
  ·rw[if_pos c,List.mem_range] at hi
   have hq:(i:Int)<=(b-a) / s:=by
    have:0<=(b-a) / s:=Int.ediv_nonneg (by omega) (by omega)
    omega
   have hm:(i:Int)*s<=(b-a) / s*s:=Int.mul_le_mul_of_nonneg_right hq (by omega)
   have hd:(b-a) / s*s<=b-a:=Int.ediv_mul_le _ (by omega)
   have h0:0<=(i:Int)*s:=Int.mul_nonneg (by omega) (by omega)
   refine⟨by omega,by omega,?_⟩
   rw[show a+(i:Int)*s-a=(i:Int)*s by omega]
   exact Int.mul_emod_left _ _
  ·rw[if_neg c,List.mem_range] at hi
   exact absurd hi (by simp)
 ·rw[if_pos (by omega)]
  have hd:s*((z-a) / s)+(z-a)%s=z-a:=Int.mul_ediv_add_emod _ _
  rw[h3,Int.add_zero] at hd
  have h0:0<=(z-a) / s:=Int.ediv_nonneg (by omega) (by omega)
  have hle:(z-a) / s<=(b-a) / s:=Int.ediv_le_ediv hs (by omega)
  refine⟨((z-a) / s).toNat,List.mem_range.mpr (by omega),?_⟩
  rw[Int.toNat_of_nonneg h0,Int.mul_comm]
  omega
theorem adA{a b s:Int}(h0:0<=a)(h1:b<=1000)(hs:0<s):(Builtin.Range.rangeSize a (b+1) s).toNat<=1001/\Builtin.Range.rangeSize a (b+1) s=((Builtin.Range.rangeSize a (b+1) s).toNat:Int):=by
 have hz:=asK (a:=a) (b:=b+1) hs
 refine⟨?_,by omega⟩
 rw[aiQ hs]
 split
 ·have:(b-a) / s<=b-a:=Int.ediv_le_self _ (by omega)
  omega
 ·decide
theorem acX{a b s:Int}(h0:0<=a)(ha:a<=1000)(h1: -1<=b)(hb:b<=1000)(hs:0<s)(hs2:s<=1000):Builtin.Range.small a (b+1) s=true:=by
 have hl:=adA h0 hb hs
 have hz:=asK (a:=a) (b:=b+1) hs
 unfold Builtin.Range.small
 simp only[Builtin.Range.rangeFitsLong,Bool.and_eq_true,Bool.or_eq_true,decide_eq_true_eq,beq_iff_eq]
 refine⟨⟨⟨⟨?_,?_⟩,?_⟩,?_⟩,.inr ?_⟩
 ·exact⟨by omega,by omega⟩
 ·exact⟨by omega,by omega⟩
 ·exact⟨by omega,by omega⟩
 ·exact⟨by omega,by omega⟩
 ·rw[if_pos hs]
  simp only[Bool.and_eq_true,decide_eq_true_eq]
  exact⟨by omega,by omega⟩
end L2
namespace L2
open PySem PySem.Spec PyProof.Rows PySem.Builtin PySem.Builtin.Str
theorem apL{lo hi a:Int}{l:List Nat}(h:aaP lo hi l=some a):lo<=a/\a<=hi:=by
 unfold aaP at h
 split at h
 ·split at h
  ·rename_i c
   have:=Option.some.inj h
   omega
  ·cases h
 ·cases h
theorem ai9{lo hi a b:Int}{l:List Nat}(hle:lo<=hi)(h:aaR lo hi l=some (a,b)):(lo<=a/\a<=hi)/\lo<=b/\b<=hi:=by
 unfold aaR at h
 split at h
 ·cases h;omega
 ·have key:∀es:List (Option Int),(∀e∈es,∀x,e=some x->lo<=x/\x<=hi)->ahA es=some (a,b)->(lo<=a/\a<=hi)/\lo<=b/\b<=hi:=by
   intro es hb h
   match es,hb,h with
   |[some x],hb,h=>
    have h:some (x,x)=some (a,b):=h
    cases h
    have:=hb _ (by simp) a rfl
    exact⟨this,this⟩
   |[some x,some y],hb,h=>
    have h:(if y<x then none else some (x,y))=some (a,b):=h
    split at h
    ·cases h
    ·cases h
     exact⟨hb (some a) (by simp) a rfl,hb (some b) (by simp) b rfl⟩
   |[],_,h=>cases h
   |[none],_,h=>cases h
   |[none,y],_,h=>cases h
   |[some x,none],_,h=>cases h
   |x::y::u::r,_,h=>cases x<;>cases y<;>cases h
  refine key _ (fun e he x hx=>?_) h
  obtain⟨w,_,rfl⟩:=List.mem_map.mp he
  exact apL hx
def orM(ms:List Int):Int:=ms.foldl (fun a m=>Builtin.bitOr a m) 0
theorem afS(ms:List Int)(m:Int):orM (ms++[m])=Builtin.bitOr (orM ms) m:=by unfold orM;rw[List.foldl_append];rfl
theorem akC:∀(ms:List Int) (a:Int),0<=a->(∀m∈ms,0<=m)->0<=ms.foldl (fun a m=>Builtin.bitOr a m) a/\∀i,tb (ms.foldl (fun a m=>Builtin.bitOr a m) a) i=(tb a i||ms.any fun m=>tb m i)
 |[],a,h,_=>⟨h,fun i=>by simp⟩
 |m::ms,a,h,hm=>by
  have hp:=hm m (by simp)
  obtain⟨h1,h2⟩:=akC ms (Builtin.bitOr a m) (acY h hp) fun z hz=>hm z (by simp[hz])
  refine⟨h1,fun i=>?_⟩
  show tb (ms.foldl _ (Builtin.bitOr a m)) i=_
  rw[h2 i,ahF h hp,List.any_cons,Bool.or_assoc]
theorem ab0{ms:List Int}(h:∀m∈ms,0<=m):0<=orM ms:=(akC ms 0 (Int.le_refl 0) h).1
theorem acB{ms:List Int}(h:∀m∈ms,0<=m)(i:Nat):tb (orM ms) i=ms.any fun m=>tb m i:=by
 have:=(akC ms 0 (Int.le_refl 0) h).2 i
 rw[abL,Bool.false_or] at this
 exact this
def adD(lo hi:Int)(l:List Nat):List Int:=(spl 44 l).map fun w=>(aaH lo hi w).getD 0
def asH(lo hi:Int)(l:List Nat):Prop:=(spl 44 l).length<=40/\∀w∈spl 44 l,(aaH lo hi w).isSome=true
theorem ag2:∀n:Nat,n<100->isW (num n)=true/\dv (num n)=(n:Int)/\((num n).all fun c=>ae4 c)=true/\(num n).length<=2:=by decide +kernel
theorem aa0{n c:Nat}(h:n<100)(hc:ae4 c=false):c∉num n:=fun hm=>by
 have:=List.all_eq_true.mp (ag2 n h).2.2.1 c hm
 rw[hc] at this
 cases this
theorem aFR{n:Nat}(h:n<100):num n≠[42]:=fun e=>by
 have:=aa0 h (c:=42) (by decide)
 rw[e] at this
 exact this (by simp)
theorem aeM{n:Nat}{lo hi:Int}(h:n<100)(h1:lo<=n)(h2:(n:Int)<=hi):aaP lo hi (num n)=some (n:Int):=by
 obtain⟨a,b,_⟩:=ag2 n h
 unfold aaP
 rw[if_pos a,b,if_pos ⟨h1,h2⟩]
theorem aJO{l:List Nat}{c:Nat}(hm:c∈l)(hc:ae4 c=false):isW l=false:=by
 cases e:isW l
 ·rfl
 ·unfold isW al8 at e
  rw[Bool.and_eq_true,Bool.and_eq_true] at e
  have:=List.all_eq_true.mp e.1.2 c hm
  rw[hc] at this
  cases this
theorem asA{n:Nat}{lo hi:Int}(h:n<100)(h1:lo<=n)(h2:(n:Int)<=hi):aaR lo hi (num n)=some ((n:Int),(n:Int)):=by
 unfold aaR
 rw[if_neg (aFR h),ac1 45 _ (aa0 h (by decide))]
 show ahA [aaP lo hi (num n)]=_
 rw[aeM h h1 h2]
 rfl
theorem asB{n m:Nat}{lo hi:Int}(h:n<100)(h':m<100)(h1:lo<=n)(h2:n<=m)(h3:(m:Int)<=hi):aaR lo hi (num n++45::num m)=some ((n:Int),(m:Int)):=by
 unfold aaR
 rw[if_neg (fun e=>by (have:45∈num n++45::num m:=(by simp));rw[e] at this;simp at this),aiV 45 _ _ (aa0 h (by decide)),ac1 45 _ (aa0 h' (by decide))]
 show ahA [aaP lo hi (num n),aaP lo hi (num m)]=_
 rw[aeM h h1 (by omega),aeM h' (by omega) h3]
 show (if (m:Int)<n then none else some ((n:Int),(m:Int)))=_
 rw[if_neg (by omega)]
theorem apR{lo hi:Int}:aaR lo hi [42]=some (lo,hi):=by unfold aaR;rw[if_pos rfl]
theorem ajJ{lo hi a b:Int}{r:List Nat}(hf:47∉r)(h:aaR lo hi r=some (a,b)):aaH lo hi r=some (aiB a b 1):=by
 unfold aaH
 rw[ac1 47 r hf,h]
theorem ajM{lo hi a b:Int}{r:List Nat}{s:Nat}(hf:47∉r)(h:aaR lo hi r=some (a,b))(hs:s<100)(hs1:1<=s):aaH lo hi (r++47::num s)=some (aiB a (if isW r=true then hi else b) s):=by
 unfold aaH
 rw[aiV 47 r _ hf,ac1 47 _ (aa0 hs (by decide))]
 show abD lo hi r (num s)=_
 unfold abD
 rw[h,aeM hs (by omega) (by omega)]
end L2
namespace L2
open PySem PySem.Spec PyProof.Rows PySem.Builtin PySem.Builtin.Str
theorem an2:∀{ws:List (List Nat)} {vs:List Value},Vals (ws.map fun q=>V.str (Tx q)) vs->StrsAre vs (ws.map Tx)
 |[],[],_=>.nil
 |[],_::_,h=>nomatch h
 |_::_,[],h=>nomatch h
 |w::r,v::vs,.cons h t=>by
  obtain⟨k,rfl⟩:=h
  exact .cons (Tx w) k (an2 t)
theorem azI(c:Nat)(ws:List (List Nat)):Txt.join (Tx [c]) (ws.map Tx)=Tx (aaT c ws):=by
 have e1:Txt.join (Tx [c]) (ws.map Tx)=Str.join (Tx [c]) (ws.map Tx):=StrLaws.glued_eq_join _ _
 have e2:=amY c (ws.map Tx)
 rw[List.map_map] at e2
 have e3:ws.map ((fun x:Str=>x.cps.toList) ∘ Tx)=ws:=by
  have:∀l:List (List Nat),l.map ((fun x:Str=>x.cps.toList) ∘ Tx)=l:=fun l=>by
   induction l with
   |nil=>rfl
   |cons a r ih=>rw[List.map_cons,ih];simp
  exact this ws
 rw[e3] at e2
 rw[e1,←aD4 (Str.join (Tx [c]) (ws.map Tx)),e2]
theorem ak6(c:Nat):∀ws:List (List Nat),(ws.map (·.length)).sum+ws.length=(aaT c ws).length+(if ws=[] then 0 else 1)
 |[]=>rfl
 |[p]=>by simp[aaT]
 |p::q::r=>by
  have ih:=ak6 c (q::r)
  rw[if_neg (by simp)] at ih ⊢
  simp only[List.map_cons,List.sum_cons,List.length_cons,aaT,List.length_append] at ih ⊢
  omega
section
variable{X:Cx}
def aDP(K:PySem.W.Frag):V->List V->Hp->VK->Prop:=fun x vs H Q=>∃(c:Nat) (p:Addr) (ws:List (List Nat)),x=.str (Tx [c])/\vs=[.ref p]/\SqL K H p (ws.map fun q=>V.str (Tx q))/\(aaT c ws).length<=1000000/\Q (.str (Tx (aaT c ws))) H
theorem aCI:MtR X "str.join" (aDP X.K):=by
 intro pins s σ H x xs v us Q I rx rv h
 obtain⟨c,p,ws,rfl,rfl,hq,hz,q⟩:=h
 obtain⟨u,rfl,r1⟩:=abT rv
 cases r1
 obtain⟨t,rfl⟩:=rx
 obtain⟨its,rv2,pl,hz2⟩:=I.list hq
 have hj:=ak6 c ws
 have hw:((ws.map Tx).map (·.length)).sum+(ws.map Tx).length<=1048576:=by
  rw[List.map_map,List.length_map]
  have e:ws.map ((fun x:Str=>x.length) ∘ Tx)=ws.map (·.length):=List.map_congr_left fun a _=>abA a
  rw[e]
  split at hj<;>omega
 refine join_listW pl.isList (ys:=ws.map Tx) (by simpa using an2 rv2) (by rw[abA];show 1<=16;decide) hw fun t' k=>?_
 refine⟨.str (Tx (aaT c ws)),H,I.kept (t':=k) fun _ _ e=>e,⟨t',by rw[azI]⟩,q⟩
theorem auB{o e:Expr}{to te:TE}{apos cpos:Pos}(ho:E X o to)(he:E X e te)(hbase:attributeBase o "join" X.env (eval o X.env)=eval o X.env:=by rfl)
  (hfew:((backTo cpos (starEach [e] X.env)).all (fun x=> !x.1)&&(backToKw cpos (keywordEach [] X.env)).all (fun x=>x.1.isSome)&&decide (([e]:List Expr).length+([]:List Keyword).length+(if ([]:List Keyword).isEmpty then 0 else 1)<30))=true:=by rfl)
  (hline:(apos.endLine==cpos.line)=true:=by rfl) (hs:starEach [e] X.env=(false,eval e X.env)::starEach [] X.env:=by rfl) (hplain:(backTo cpos (starEach [] X.env)).any (·.1)=false:=by rfl):
  E X (.Call (.Attribute o "join" apos) [e] [] cpos) (tBM X.K "str" (aDP X.K) to (ahJ te ak0)):=
 ⟨an4 PySem.F.plainAttrs_str PySem.F.slot_str_join PySem.F.type_str_join aCI ho.h (acN he.h ad0 hs) hbase hfew hline hs hplain⟩
theorem aOH:Op2 X (binaryOp .Add) (fun x y H Q=>∃(a b:Addr) (xs ys:List V),x=.ref a/\y=.ref b/\SqL X.K H a xs/\SqL X.K H b ys/\xs.length+ys.length<=sizeLine/\∀p,H p=none->Q (.ref p) (upd H p (.lst (xs++ys)))):=by
 refine⟨fun pins s σ H x y v u Q I rx ry h=>?_⟩
 obtain⟨a,b,xs,ys,rfl,rfl,ha,hb,hz,q⟩:=h
 cases rx
 cases ry
 obtain⟨i1,r1,p1,z1⟩:=I.list ha
 obtain⟨i2,r2,p2,z2⟩:=I.list hb
 obtain⟨⟨cls,dd,data,sl⟩,ho,hc,n,hd⟩:=p1.isList
 obtain⟨⟨cls2,dd2,data2,sl2⟩,ho2,hc2,n2,hd2⟩:=p2.isList
 simp only at hc hd hc2 hd2
 subst hc hd hc2 hd2
 have l1:=r1.length
 have l2:=r2.length
 refine concat_meets ⟨_,ho,rfl⟩ ⟨_,ho2,rfl⟩ noFill_list_add seq_list_add PySem.F.slot_list_add PySem.F.entry_list_add (PySem.F.args_list_add_2 _ _) (list_addW a b _ _ n n2 dd dd2 sl sl2 (by simp only[List.size_toArray];omega)) ⟨ho,ho2,?_⟩
 refine⟨.ref s.heap.objs.size,upd H s.heap.objs.size (.lst (xs++ys)),I.laid (t':=s.toks) (fun b u e=>Heap.get?_push_of_some _ e) (Nat.le_refl _) ?_,rfl,q _ (I.hok.fresh (Nat.le_refl _))⟩
 exact⟨by rw[List.length_append];exact hz,i1++i2,0,r1.append r2,by simpa using Heap.get?_push_size _ rfl⟩
end
def au7(J:It)(k:Nat)(js:List Nat)(g:TG)(σ:St)(tt:TT)(te:TE)(Q:VK)(H1:Hp):Prop:=∀D,H1 D=none->∃W:Nat->Nat->Hp->Prop,(∃m,W 0 m (upd H1 D (.lst [])))/\∀i m H2,W i m H2->
 (J.stop i H2/\Q (.ref D) H2)∨(J.go i H2/\∀v H3,J.yld i H2 v H3->∀τ:St,τ.length=k->g v (τ++aaV js σ) H3 fun σ2 H3'=>(∃τ':St,τ'.length=k/\σ2=τ'++aaV js σ)/\tt σ2 H3' fun b H4=>if b=true then
  te σ2 H4 fun y H5=>∃ys,H5 D=some (.lst ys)/\ys.length<sizeLine/\∃m',m'<m/\W (i+1) m' (upd H5 D (.lst (ys++[y])))
  else ∃m',m'<m/\W (i+1) m' H4)
def axS(wi:TI)(k:Nat)(js:List Nat)(g:TG)(tt:TT)(te:TE):TE:=fun σ H Q=>wi σ H fun J H1=>au7 J k js g σ tt te Q H1
section
variable{X:Cx}{elt iter tg:Expr}{xs:List Str}{y:Str}{py pos spos:Pos}{ifs:List Expr}{scope:Scope}{cl:List (Str×Addr)}{N':List Str}{js:List Nat}{tt:TT}{te:TE}{g:TG}{wi:TI}
theorem apM{pins:List (Addr×Obj)}{σ:St}{H:Hp}{s s4:Shared}{fp:List Addr}{C:Addr}{m4:Str->Option Value}(hcl:Clos X scope cl)(hN:js.map (fun j=>X.N[j]?)=N'.map some)
  (hk:N'.all (fun y=>(X.env.kindOf y==some .cell)||(X.env.kindOf y==some .free))=true) (hf:N'.all (fun y=>scope.names.lookup y==some .free)=true)
  (I:Inv X pins σ H s) (hfp:∀b∈fp,adE X pins H b/\b<s.heap.objs.size) (hC:C=s.heap.objs.size) (ho:s4.os=s.os) (hg:s4.gens=s.gens) (hkeep:∀b o,s.heap.get? b=some o->s4.heap.get? b=some o) (hn:s4.heap.Ns C m4):
  Inv (aaM X (xs++N') scope cl C fp pins s H) [] (List.replicate xs.length none++aaV js σ) H s4:=by
 have hne:∀b o,s.heap.get? b=some o->b≠C:=fun b o e=>by rw[hC];exact Nat.ne_of_lt (Heap.lt_size e)
 refine⟨⟨I.ok.mod,hcl.kind,I.ok.glob,I.ok.blt,Nat.le_of_eq hC.symm,fun y z c h1 h2=>I.ok.inj y z c (hcl.sub y c h1) (hcl.sub z c h2),fun y hy=>hcl.has y (alC (fun z=>hcl.nocell _ (PySem.mem_of_lookup z) rfl) (by rw[←ac5];exact hy)),fun y c h _=>(nomatch h),I.ok.hd,I.ok.frames,.inl rfl,fun b hb=>⟨?_,fun y c e=>(hfp b hb).1.2.2.2.2.1 y c (hcl.sub y c e)⟩,
  I.bs,Nat.le_trans I.ok.bsz I.sz,fun b o e hb=>?_,fun b hb hz=>?_,I.stack,I.stkFree⟩,ho,by rw[hg];exact I.bare,Un.kept hkeep,⟨m4,hn,fun i y v h1 h2 h3=>?_⟩,fun y c e=>?_,?_,fun y c e=>I.freeC y c (hcl.sub y c e),fun p hp=>?_,I.hok.kept hkeep,?_⟩
 ·rw[hC];exact Nat.ne_of_lt (hfp b hb).2
 ·rcases (hfp b hb).1.2.2.2.1 with z | z
  ·exact I.ok.noex b o e z
  ·exact absurd (Nat.lt_of_lt_of_le (Heap.lt_size e) (Nat.le_trans I.ok.bsz z)) (Nat.lt_irrefl _)
 ·rcases List.mem_cons.mp (I.stkSub b hz) with z | z
  ·exact (hfp b hb).1.2.1 z
  ·exact (hfp b hb).1.2.2.1 z
 ·by_cases hi:i<xs.length
  ·rw[List.getElem?_append_left (by rw[List.length_replicate];exact hi),List.getElem?_replicate,if_pos hi] at h2
   exact nomatch h2
  ·obtain⟨j0,rfl⟩:∃j0,i=xs.length+j0:=⟨i-xs.length,by omega⟩
   have h1:N'[j0]? =some y:=by
    have h1:(xs++N')[xs.length+j0]? =some y:=h1
    rw[List.getElem?_append_right (Nat.le_add_right _ _),Nat.add_sub_cancel_left] at h1
    exact h1
   have h2:(aaV js σ)[j0]? =some (some v):=by rw[List.getElem?_append_right (by rw[List.length_replicate];exact Nat.le_add_right _ _),List.length_replicate,Nat.add_sub_cancel_left] at h2;exact h2
   generalize j0=i at h1 h2
   have hy:y∈N':=List.mem_of_getElem? h1
   have q:(js.map (fun j=>X.N[j]?))[i]? =some (some y):=by rw[hN,List.getElem?_map,h1];rfl
   rw[List.getElem?_map] at q
   cases ej:js[i]? with
   |none=>rw[ej] at q;cases q
   |some j=>
    rw[ej] at q
    have q:X.N[j]? =some y:=Option.some.inj q
    unfold aaV at h2
    rw[List.getElem?_map,ej] at h2
    have h2:(σ[j]?).getD none=some v:=Option.some.inj h2
    have h2:σ[j]? =some (some v):=by
     cases e:σ[j]? with
     |none=>rw[e] at h2;cases h2
     |some o=>rw[e] at h2;exact congrArg some h2
    have kk:=List.all_eq_true.mp hk y hy
    have kk:X.env.kindOf y=some .cell∨X.env.kindOf y=some .free:=by simpa using kk
    have ff:=List.all_eq_true.mp hf y hy
    have ff:scope.names.lookup y=some .free:=by simpa using ff
    obtain⟨m,_,hl⟩:=I.loc
    obtain⟨u,r,l⟩:=hl j y v q h2 (by rcases kk with z | z;exact .inr (.inl z);exact .inr (.inr z))
    refine⟨u,r,.inr ⟨af0 ff,?_⟩⟩
    obtain⟨c,hc⟩:=hcl.has y ff
    rcases l with ⟨z,_⟩ | ⟨_,c',e',cell⟩
    ·rcases kk with k | k<;>(rw[k] at z;cases z)
    ·rw[hcl.sub y c hc] at e'
     cases e'
     exact⟨c,hc,cell.keeps hkeep⟩
 ·obtain⟨v,q⟩:=I.cell y c (hcl.sub y c e)
  exact⟨v,q.keeps hkeep⟩
 ·show H C=none
  rw[hC]
  exact I.hok.fresh (Nat.le_refl _)
 ·have hp:p∈X.pn++pins:=by
   have hp:p∈(X.pn++pins)++[]:=hp
   rwa [List.append_nil] at hp
  obtain⟨e,n,ne,nf,d⟩:=I.pin p hp
  refine⟨hkeep _ _ e,n,hne _ _ e,fun z=>?_,d⟩
  rcases List.mem_cons.mp (I.stkSub p.1 z) with z | z
  ·exact ne z
  ·exact nf z
 ·show (List.replicate xs.length none++aaV js σ).length=(xs++N').length
  rw[List.length_append,List.length_append,List.length_replicate]
  have q:=congrArg List.length hN
  rw[List.length_map,List.length_map] at q
  unfold aaV
  rw[List.length_map,q]
theorem atG{pins:List (Addr×Obj)}{σ σ':St}{H H':Hp}{s s':Shared}{fp:List Addr}{C:Addr}(I:Inv X pins σ H s)(hfp:∀b∈fp,adE X pins H b)(J:Inv (aaM X (xs++N') scope cl C fp pins s H) [] σ' H' s'):Inv X pins σ H' s':=
 I.call' (ch:=fp) J.os J.base J.hok J.bare fun b hb=>⟨(hfp b hb).2.2.2.1,(hfp b hb).2.1,(hfp b hb).2.2.2.2.1,(hfp b hb).2.2.2.2.2⟩
theorem aoP{pins:List (Addr×Obj)}{σ:St}{H:Hp}{s:Shared}{Q:VK}{RR:Value->Addr->Result->Shared->Prop}{J:It}{fp:List Addr}{it:Addr}{tn:Nat->Heap->Prop}
  (hcl:Clos X scope cl) (hnd:(xs++N').Nodup) (hN:js.map (fun j=>X.N[j]?)=N'.map some)
  (hk:N'.all (fun y=>(X.env.kindOf y==some .cell)||(X.env.kindOf y==some .free))=true) (hf:N'.all (fun y=>scope.names.lookup y==some .free)=true) (hc:X.calm=true)
  (hg:∀(C:Addr) (ex:List Addr) (pins:List (Addr×Obj)) (s:Shared) (H:Hp),PG (aaM X (xs++N') scope cl C ex pins s H) tg g)
  (ht:∀(C:Addr) (ex:List Addr) (pins:List (Addr×Obj)) (s:Shared) (H:Hp),PF (aaM X (xs++N') scope cl C ex pins s H) ifs tt)
  (he:∀(C:Addr) (ex:List Addr) (pins:List (Addr×Obj)) (s:Shared) (H:Hp),PE (aaM X (xs++N') scope cl C ex pins s H) elt te)
  (I:Inv X pins σ H s) (T:Turn X.prog X.w X.K (tg) J fp it tn) (st:tn 0 s.heap) (hfp:∀b∈fp,adE X pins H b)
  (q:∀D,H D=none->∃W:Nat->Nat->Hp->Prop,(∃m,W 0 m (upd H D (.lst [])))/\∀i m H2,W i m H2->
   (J.stop i H2/\Q (.ref D) H2)∨(J.go i H2/\∀v H3,J.yld i H2 v H3->∀τ:St,τ.length=xs.length->g v (τ++aaV js σ) H3 fun σ2 H3'=>(∃τ':St,τ'.length=xs.length/\σ2=τ'++aaV js σ)/\tt σ2 H3' fun b H4=>if b=true then
    te σ2 H4 fun y H5=>∃ys,H5 D=some (.lst ys)/\ys.length<sizeLine/\∃m',m'<m/\W (i+1) m' (upd H5 D (.lst (ys++[y])))
    else ∃m',m'<m/\W (i+1) m' H4))
  (hRR:∀(D C:Addr) (s':Shared) (H':Hp) (m:Str->Option Value),Inv X pins σ H' s'->H' C=none->C≠X.env.locals->X.s₀.heap.objs.size<=C->(∀y c,X.env.cells.lookup y=some c->c≠C)->(∀p∈X.pn++pins,p.1≠C)->s'.heap.Ns C m->Q (.ref D) H'->RR (.ref D) C (.ok .next) s'):
  wpAny (model X.prog X.w) X.A (newList []) (fun acc s₃=>wpAny (model X.prog X.w) X.A (newFunctionEnv scope X.env.globals cl [] X.env.qual none .none (some X.env)) (fun cenv s₄=>
   codeAny (model X.prog X.w) X.A (.compStart (.ListComp elt [⟨tg,iter,ifs,0⟩] scope pos) 0 (.ref it) acc {cenv with scope:=relabel scope X.env}) (RR acc cenv.locals) s₄) X.xe s₃) X.xe s:=by
 refine wpAny_newObj_type ?_
 have hD:H s.heap.objs.size=none:=I.hok.fresh (Nat.le_refl _)
 have I3:Inv X pins σ (upd H s.heap.objs.size (.lst [])) {s with heap:=s.heap.push {cls:=.type "list",dict:=none,data:=.seq ([]:List Value).toArray} }:=I.lnew (its:=[]) (t':=s.toks) .nil (Nat.zero_le _)
 have hfp3:∀b∈fp,adE X pins (upd H s.heap.objs.size (.lst [])) b/\b<(s.heap.push {cls:=.type "list",dict:=none,data:=.seq ([]:List Value).toArray}).objs.size:=fun b hb=>by
  obtain⟨o,ho,_⟩:=T.obj 0 _ st b hb
  have hlt:=Heap.lt_size ho
  obtain⟨f0,f1⟩:=hfp b hb
  exact⟨⟨by rw[aaG (Nat.ne_of_lt hlt)];exact f0,f1⟩,by rw[Heap.size_push];exact Nat.lt_succ_of_lt hlt⟩
 have st3:tn 0 (s.heap.push {cls:=.type "list",dict:=none,data:=.seq ([]:List Value).toArray}):=T.keep _ _ _ st fun b _ o e=>Heap.get?_push_of_some _ e
 obtain⟨W,⟨m0,w0⟩,turn⟩:=q s.heap.objs.size hD
 generalize hs3:({s with heap:=s.heap.push {cls:=.type "list",dict:=none,data:=.seq ([]:List Value).toArray} }:Shared)=s3 at I3 ⊢
 have hh3:s.heap.push {cls:=.type "list",dict:=none,data:=.seq ([]:List Value).toArray}=s3.heap:=by rw[←hs3]
 rw[hh3] at hfp3 st3
 generalize s.heap.objs.size=D at I3 hfp3 w0 turn hD ⊢
 generalize upd H D (.lst [])=H3 at I3 hfp3 w0
 refine wpAny_newFunctionEnv hcl.nocell (by intro y hy;simp at hy) (fun h₁ hns₁ hsb₁=>?_) hcl.kind
 have hkeep:∀b o,s3.heap.get? b=some o->h₁.get? b=some o:=fun b o e=>hsb₁.extBut b o (Nat.ne_of_lt (Heap.lt_size e)) (Heap.get?_push_of_some _ e)
 have J4:Inv (aaM X (xs++N') scope cl s3.heap.objs.size fp pins s3 H3) [] (List.replicate xs.length none++aaV js σ) H3 {s3 with heap:=h₁,toks:=s3.toks+([]:List (Str×Value)).length}:=
  apM hcl hN hk hf I3 hfp3 rfl rfl rfl hkeep hns₁
 have st4:tn 0 h₁:=T.keep _ _ _ st3 fun b _ o e=>hkeep b o e
 have cell':∀{s':Shared} {σ':St} {H':Hp},Inv (aaM X (xs++N') scope cl s3.heap.objs.size fp pins s3 H3) [] σ' H' s'->Q (.ref D) H'->RR (.ref D) s3.heap.objs.size (.ok .next) s':=fun {s' σ' H'} J hq=>by
  obtain⟨m,hn,_⟩:=J.loc
  refine hRR D _ s' H' m (atG I3 (fun b hb=>(hfp3 b hb).1) J) J.free (Nat.ne_of_gt I3.lt) I3.sz (fun y c e z=>?_) (fun p hp z=>?_) hn hq
  ·obtain⟨v,k⟩:=I3.cell y c e
   exact absurd k.lt (by rw[z];exact Nat.lt_irrefl _)
  ·exact absurd (Heap.lt_size (I3.pin p hp).1) (by rw[z];exact Nat.lt_irrefl _)
 have fpX:∀{H':Hp},(∀b∈fp,H' b=none)->∀b∈fp,adE (aaM X (xs++N') scope cl s3.heap.objs.size fp pins s3 H3) [] H' b:=fun {H'} hn b hb=>by
  obtain⟨⟨f0,f1,f2,f3,f4,f5⟩,flt⟩:=hfp3 b hb
  refine⟨hn b hb,Nat.ne_of_lt flt,fun z=>?_,.inl hb,fun y c e=>f4 y c (hcl.sub y c e),fun p hp=>?_⟩
  ·rcases List.mem_cons.mp (I3.stkSub b z) with z | z
   ·exact f1 z
   ·exact f2 z
  ·have hp:p∈(X.pn++pins)++[]:=hp
   rw[List.append_nil] at hp
   exact f5 p hp
 have loop:∀s₄:Shared,s₄={s3 with heap:=h₁,toks:=s3.toks+([]:List (Str×Value)).length}->
   codeAny (model X.prog X.w) X.A (.compLoop (.ListComp elt [⟨tg,iter,ifs,0⟩] scope pos) 0 (.ref it) (.ref D) (compEnvC scope cl s3.heap.objs.size X.env)) (RR (.ref D) s3.heap.objs.size) s₄:=by
  rintro s₄ rfl
  refine ajD rfl (fun n s'=>∃i τ H',τ.length=xs.length/\Inv (aaM X (xs++N') scope cl s3.heap.objs.size fp pins s3 H3) [] (τ++aaV js σ) H' s'/\tn i s'.heap/\(∀b∈fp,H' b=none)/\W i n H') ?_ m0 ⟨0,List.replicate xs.length none,H3,List.length_replicate,J4,st4,fun b hb=>(hfp3 b hb).1.1,w0⟩
  rintro n s5 ⟨i,τ,H5,hτ,J5,st5,fr5,w5⟩
  rcases turn i n H5 w5 with ⟨stop,qn⟩ | ⟨go,step⟩
  ·refine wpAny_mono (T.done (aaM X (xs++N') scope cl s3.heap.objs.size fp pins s3 H3) rfl rfl rfl hc i [] s5 _ H5 (fun _ _=>False) J5 (fpX fr5) st5 stop) (fun r s6 ⟨hr,J6⟩=>?_) fun _ _ z=>z.elim
   subst hr
   exact cell' J6 qn
  ·refine wpAny_mono (T.item (aaM X (xs++N') scope cl s3.heap.objs.size fp pins s3 H3) rfl rfl rfl hc i [] s5 _ H5 (fun _ _=>False) J5 (fpX fr5) st5 go) (fun r s6 ⟨u,hr,h6⟩=>?_) fun _ _ z=>z.elim
   subst hr
   refine wpAny_mono h6 (fun _ s6' h6'=>?_) fun _ _ z=>z.elim
   obtain⟨v,H6,J6,r6,y6,st6,fr6⟩:=h6'
   clear h6
   have J6':=J6.pinned (fpX fr6) (T.obj _ _ st6)
   show wpAny _ _ (assign tg _ u) _ _ _
   refine wpAny_mono (hg _ _ _ _ _ _ s6' _ H6 v u _ J6' r6 (step v H6 y6 τ hτ)) (fun _ s7 h7=>?_) fun _ _ z=>z.elim
   obtain⟨_,H7,J7,⟨τ',hτ',rfl⟩,q7⟩:=h7
   have again:∀{σ8:St} {H8:Hp} {s8:Shared},Inv (aaM X (xs++N') scope cl s3.heap.objs.size fp pins s3 H3) ([]++afJ fp s6'.heap) σ8 H8 s8->tn (i+1) s8.heap/\∀b∈fp,H8 b=none:=fun {σ8 H8 s8} J8=>by
    refine⟨T.keep _ _ _ st6 fun b hb o e=>(J8.pin (b,o) (List.mem_append_right _ (List.mem_append_right _ (abO hb e)))).1,fun b hb=>?_⟩
    obtain⟨o,e,d⟩:=T.obj _ _ st6 b hb
    exact (J8.pin (b,o) (List.mem_append_right _ (List.mem_append_right _ (abO hb e)))).2.1
   refine wpAny_mono (ht _ _ _ _ _ _ s7 _ H7 _ J7 q7) (fun ok s8 ⟨H8,J8,q8⟩=>?_) fun _ _ z=>z.elim
   cases ok with
   |false=>
    obtain⟨m',hm,w8⟩:=(show ∃m',m'<n/\W (i+1) m' H8 from q8)
    obtain⟨a1,a2⟩:=again J8
    exact⟨m',hm,i+1,τ',H8,hτ',J8.unpinned,a1,a2,w8⟩
   |true=>
    refine wpAny_mono (he _ _ _ _ _ _ s8 _ H8 _ J8 q8) (fun y s9 ⟨z,H9,J9,r9,ys,hys,hlen,m',hm,w9⟩=>?_) fun _ _ z=>z.elim
    refine wpAny_mono (agO (X:=aaM X (xs++N') scope cl s3.heap.objs.size fp pins s3 H3) _ s9 _ H9 (.ref D) [z] (.ref D) [y] (fun _ H10=>H10=upd H9 D (.lst (ys++[z]))) J9 rfl (.cons r9 .nil) ⟨D,ys,z,rfl,rfl,hys,hlen,rfl⟩) (fun _ s10 ⟨_,H10,J10,_,e10⟩=>?_) fun _ _ z=>z.elim
    subst e10
    obtain⟨a1,a2⟩:=again J10
    exact⟨m',hm,i+1,τ',_,hτ',J10.unpinned,a1,a2,w9⟩
 exact codeAny_compStart_list (loop _ rfl) (T.self _ 0 _ _ _ st4 (loop _ rfl))
theorem axG(hcl:Clos X scope cl)(hnd:(xs++N').Nodup)(hN:js.map (fun j=>X.N[j]?)=N'.map some)
  (hk:N'.all (fun y=>(X.env.kindOf y==some .cell)||(X.env.kindOf y==some .free))=true) (hf:N'.all (fun y=>scope.names.lookup y==some .free)=true) (hc:X.calm=true)
  (hi:PI X (tg) iter wi)
  (hg:∀(C:Addr) (ex:List Addr) (pins:List (Addr×Obj)) (s:Shared) (H:Hp),PG (aaM X (xs++N') scope cl C ex pins s H) tg g)
  (ht:∀(C:Addr) (ex:List Addr) (pins:List (Addr×Obj)) (s:Shared) (H:Hp),PF (aaM X (xs++N') scope cl C ex pins s H) ifs tt)
  (he:∀(C:Addr) (ex:List Addr) (pins:List (Addr×Obj)) (s:Shared) (H:Hp),PE (aaM X (xs++N') scope cl C ex pins s H) elt te)
  (hs:∀x,foldedSetIterable iter X.env x=pure x:=by intro _;rfl):
  PE X (.ListComp elt [⟨tg,iter,ifs,0⟩] scope pos) (axS wi xs.length js g tt te):=by
 intro pins s σ H Q I h
 rw[eval_ListComp]
 refine wpAny_comprehension_free (use:=none) rfl hs hcl.is hcl.kind hcl.names (thn (hi pins s σ H _ I h) fun xv s₁ h₁=>thn h₁ fun itv s₂ h₂=>?_)
 obtain⟨it,fp,tn,J,H2,rfl,I2,T,st,hfp,q⟩:=h₂
 refine aoP (RR:=fun acc C=>compPost (model X.prog X.w) X.A X.xe none (EP X pins σ Q) acc C) hcl hnd hN hk hf hc hg ht he I2 T st hfp q ?_
 intro D C s' H' m I' hC0 hCL hCs hCc hCp hn hq
 refine⟨m,hn,fun h' sb=>⟨.ref D,H',?_,rfl,hq⟩⟩
 exact I'.turned (t':=s'.toks) (fun b o hb e=>(sb.2 b hb).trans e) hC0 hCL (.inr hCs) hCc hCp
theorem aEP(xs N':List Str)(js:List Nat)(hi:Il X (tg) iter wi)
  (hg:∀(cl:List (Str×Addr)) (C:Addr) (ex:List Addr) (pins:List (Addr×Obj)) (s:Shared) (H:Hp),Gt (aaM X (xs++N') scope cl C ex pins s H) tg g)
  (ht:∀(cl:List (Str×Addr)) (C:Addr) (ex:List Addr) (pins:List (Addr×Obj)) (s:Shared) (H:Hp),Fs (aaM X (xs++N') scope cl C ex pins s H) ifs tt)
  (he:∀(cl:List (Str×Addr)) (C:Addr) (ex:List Addr) (pins:List (Addr×Obj)) (s:Shared) (H:Hp),E (aaM X (xs++N') scope cl C ex pins s H) elt te)
  (hcl:∃cl,Clos X scope cl:=by exact an1 rfl rfl rfl rfl) (hnd:(xs++N').Nodup:=by decide +kernel) (hN:js.map (fun j=>X.N[j]?)=N'.map some:=by rfl)
  (hk:N'.all (fun y=>(X.env.kindOf y==some .cell)||(X.env.kindOf y==some .free))=true:=by rfl) (hf:N'.all (fun y=>scope.names.lookup y==some .free)=true:=by rfl) (hc:X.calm=true:=by rfl)
  (hs:∀x,foldedSetIterable iter X.env x=pure x:=by intro _;rfl):E X (.ListComp elt [⟨tg,iter,ifs,0⟩] scope pos) (axS wi xs.length js g tt te):=by
 obtain⟨cl,hcl⟩:=hcl
 exact⟨axG hcl hnd hN hk hf hc hi.h (fun C ex pins s H=>(hg cl C ex pins s H).h) (fun C ex pins s H=>(ht cl C ex pins s H).h) (fun C ex pins s H=>(he cl C ex pins s H).h) hs⟩
end
section
variable{js:List Nat}{σ:St}{tt:TT}{te:TE}{Q:VK}{H1:Hp}
end
theorem gTuc{X:Cx}{pos:Pos}{K:PySem.W.Frag}{es:List Expr}{k n:Nat}{t:TGs}(h:Gts X es t)(hK:X.K=K:=by rfl)(hc:X.calm=true:=by rfl)(hn:(assignEach es X.env).length=n:=by rfl)(hst:(assignEach es X.env).findIdx? (·.1)=none:=by rfl):Gt X (.Tuple es k pos) (aAX K n t):=by
 subst hK
 exact gTu h hc hn hst
section
variable{X:Cx}
end
section
variable{X:Cx}{elt iter tg:Expr}{xs:List Str}{y:Str}{py pos spos:Pos}{ifs:List Expr}{scope:Scope}{cl:List (Str×Addr)}{N':List Str}{js:List Nat}{tt:TT}{te:TE}{g:TG}{wi:TI}
end
end L2
namespace L2
open PySem PySem.Spec PyProof.Rows PySem.SeqAt
section
variable{X:Cx}
end
section
variable{M:Model}{A:Around}{E:Value->Shared->Prop}{s:Shared}{f:Obj->Prop}{B:Heap}{env:Env}{outer l:List Env}{L e:Addr}{fl:Value}{Q:Unit->Shared->Prop}
end
theorem ObjOk.at{P:Program}{w:World}{H:Hp}{h:Heap}{a:Addr}{o:HO}(x:ObjOk P w H h a o):∃ob,h.get? a=some ob:=by
 induction o with
 |lst xs=>obtain⟨_,_,_,_,e⟩:=x;exact⟨_,e⟩
 |tup xs=>obtain⟨_,_,_,ob,e,_⟩:=x;exact⟨_,e⟩
 |dK kvs=>obtain⟨_,_,_,_,ob,_,_,e,_⟩:=x;exact⟨_,e⟩
 |dT kvs=>obtain⟨_,_,_,_,ob,_,_,e,_⟩:=x;exact⟨_,e⟩
 |set S n=>obtain⟨ob,_,_,_,e,_⟩:=x;exact⟨_,e⟩
 |ins C dx fs=>obtain⟨_,_,_,e,_⟩:=x;exact⟨_,e⟩
 |own y=>exact x
 |xd fs=>obtain⟨_,⟨ob,_,_,e,_⟩,_⟩:=x;exact⟨_,e⟩
 |rng lo hi=>obtain⟨_,_,_,e⟩:=x;exact⟨_,e⟩
 |frz ob u ih=>exact⟨_,x.1⟩
 |tbl ps=>exact⟨_,x⟩
 |met f y=>exact⟨_,x⟩
 |ext φ=>exact x.2.1
def Ex(C:Addr)(d:Option Addr)(b:Bool)(o:Obj):Prop:=o.cls=.ref C/\o.dict=d/\∃vs,o.data=.fields vs/\(b=true->vs[2]? =some .none)
def wc(C:Addr):Value:=.int C 0
def cv(C:Addr):Bool->Value
 |true=>.ref C
 |false=>wc C
def Fly(g h:Heap)(H:Hp)(a C:Addr)(d:Option Addr)(b:Bool):Prop:=
 H a=none/\g.get? a=none/\∃(o:Obj) (vs:Array Value) (T:Addr) (oT:Obj) (ts:Array Value),(h.get? a=some o/\o.data=.fields vs/\vs[1]? =some (.ref T)/\Ex C d b o)/\
  (h.get? T=some oT/\oT.data=.fields ts/\ts[3]? =some .none)/\(H T=none/\g.get? T=none)/\T≠a
def CX1(P:Program)(w:World):CXT:=fun outer H s E e s'=>
 ∃a C d b H',e=.ref a/\s'.os=s.os/\AllBare s'.gens/\Un (frs outer) [] H H' s.heap s'.heap/\HOk P w H' s'.heap/\Fly s.heap s'.heap H' a C d b/\E (cv C b) d H'
section
variable{P:Program}{w:World}{K:PySem.W.Frag}{mg:Str->Option Value}{base:Heap}{N:List Str}{qual:Str}{scope:Scope}{f:Addr}{cd:Value}{A:Around}{outer:List Env}{s0:Shared}{H0:Hp}{E:XK}
end
abbrev aNA:List Value:=[.type "ValueError",.type "Exception",.type "BaseException",.type "object"]
structure Xc(K:PySem.W.Frag)(mg:Str->Option Value)(x:Str)(C:Addr):Prop where
 m:mg x=some (.ref C)
 n:PySem.W.nsIn K mainGlobals x=some (some (.ref C))
 q:PySem.W.excIn K C aNA "ValueError.__new__"=true
theorem Mod.top{K:PySem.W.Frag}{mg:Str->Option Value}{base:Heap}(m:Mod K mg base)(p:Program):∃loose mb,PySem.W.TopRead p loose mg mb base:=by
 obtain⟨mb,b1,b2⟩:=m.blt
 obtain⟨o,es,ep,ho,hd,hk,hf⟩:=id m.glob
 refine⟨es.toList.filterMap fun e=>match e.key with | .str y _=>some y | _=>none,mb,m.glob,b1,m.nolimit,b2,fun x _ hx _ _ _=>?_⟩
 rw[←hf]
 have none_:es.find? (fun e=>e.key.isStr x)=none:=by
  rw[Array.find?_eq_none]
  intro e he hs
  obtain⟨y,t,ek⟩:=hk e he
  refine hx (List.mem_filterMap.mpr ⟨e,by simpa using he,?_⟩)
  rw[ek] at hs ⊢
  have:y=x:=by simpa [Value.isStr] using hs
  rw[this]
 show (es.find? fun e=>e.key.isStr x).map (·.val)=none
 rw[none_]
 rfl
theorem Xc.own{K:PySem.W.Frag}{mg:Str->Option Value}{base:Heap}{x:Str}{C:Addr}(c:Xc K mg x C)(m:Mod K mg base)(p:Program):OwnCls x C aNA "ValueError.__new__" mg base:=by
 obtain⟨loose,mb,T⟩:=m.top p
 exact PySem.W.own_of_in m.kin T c.n c.q
section
variable{X:Cx}{E:XK}{x:Str}{C:Addr}{e:Expr}{es:List Expr}{t:TA}{np cpos pos:Pos}
end
section
variable{P:Program}{w:World}{K:PySem.W.Frag}{mg:Str->Option Value}{base:Heap}{N:List Str}{qual:Str}{scope:Scope}{f:Addr}{cd:Value}{A:Around}{outer:List Env}{s0:Shared}{H0:Hp}{E:XK}
end
section
variable{P:Program}{w:World}{K:PySem.W.Frag}{mg:Str->Option Value}{base:Heap}{x:Str}{st:Stmt}{ps N:List Str}{k:Nat}{sp:Sp}
end
def XP(X:Cx)(pins:List (Addr×Obj))(σ:St)(E:XK)(e:Value)(s':Shared):Prop:=∃s1 H1,Inv X pins σ H1 s1/\CX1 X.prog X.w X.stack H1 s1 E e s'
abbrev TX:=St->Hp->VK->XK->Prop
abbrev TB:=Ends->St->Hp->XK->Prop
section
variable{X:Cx}{k k':Nat}{ps:List Str}{sp:Sp}{x:Str}{e:Expr}{es:List Expr}{tA:TA}{p pos:Pos}{t:TX}
end
section
variable{X:Cx}{pins:List (Addr×Obj)}{σ:St}{H:Hp}{s:Shared}
end
def xo(a C:Addr)(d:Option Addr)(b:Bool):HO:=.ext fun h=>∃o,h.get? a=some o/\Ex C d b o
section
variable{X:Cx}{body suite:List Stmt}{b0:Stmt}{tb:TB}{th:Addr->TS}{cx n:Str}{np hpos pos:Pos}{CF:Addr}
end
section
variable{X:Cx}{E:XK}{x:Str}{C:Addr}{e:Expr}{es:List Expr}{tA:TA}{np cpos pos p:Pos}{k k':Nat}{ps:List Str}{sp:Sp}
end
section
open PySem.W
variable{prog:Program}{w:World}{A:Around}{E:Value->Shared->Prop}{s:Shared}{K:PySem.W.Frag}{a C:Addr}
open Builtin Builtin.ObjectAttr Builtin.Getset_descriptor in
open Builtin Builtin.ObjectAttr in
end
section
variable{X:Cx}{body suite:List Stmt}{b0:Stmt}{tb:TB}{th:Addr->TS}{cx:Str}{np hpos pos:Pos}{CF:Addr}
end
section
variable{prog:Program}{w:World}{A:Around}{E:Value->Shared->Prop}{s:Shared}{e C a:Addr}{d:Option Addr}
end
section
variable{prog:Program}{w:World}{A:Around}{E:Value->Shared->Prop}{s:Shared}{env:Env}{e C a:Addr}{d:Option Addr}
end
section
variable{P:Program}{w:World}{K:PySem.W.Frag}{mg:Str->Option Value}{base:Heap}{N:List Str}{qual:Str}{scope:Scope}{f:Addr}{cd:Value}{A:Around}{outer:List Env}{s0:Shared}{H0:Hp}{E:XK}
end
section
variable{X:Cx}{E:XK}{x:Str}{C a:Addr}{e:Expr}{es:List Expr}{t:TA}{np cpos pos p2:Pos}{j:Nat}
end
section
variable{X:Cx}{pos:Pos}{o i:Expr}{to ti:TE}
end
section
variable{X:Cx}
end
section
variable{js:List Nat}{σ:St}{tt:TT}{te:TE}{Q:VK}{H1:Hp}
end
def aeS(l:List Nat)(lo hi:Option Int):List Nat:=(l.drop (HT.sIx l.length 0 lo)).take (HT.sIx l.length l.length hi-HT.sIx l.length 0 lo)
theorem aDJ(v:Option Int)(n d:Nat):(match v with | none=>(d:Int) | some i=>max 0 (min (if i<0 then i+(n:Int) else i) (n:Int)))=((HT.sIx n d v:Nat):Int):=by
 cases v with
 |none=>rfl
 |some i=>
  show max 0 (min (if i<0 then i+(n:Int) else i) (n:Int))=(((if i<0 then (i+(n:Int)).toNat else min i.toNat n):Nat):Int)
  by_cases h:i<0
  ·rw[if_pos h,if_pos h];omega
  ·rw[if_neg h,if_neg h];omega
theorem auA(lo hi:Option Int)(n:Nat):Builtin.Str.strSliceIndices lo hi 1 n=sliceRange ((HT.sIx n 0 lo:Nat):Int) ((HT.sIx n n hi:Nat):Int) 1:=by
 unfold Builtin.Str.strSliceIndices
 simp only[show ((1:Int)>0)=True from by simp,if_true]
 rw[←aDJ lo n 0,←aDJ hi n n]
 cases lo<;>cases hi<;>rfl
theorem ao4(a b:Nat):sliceRange (a:Int) (b:Int) 1=(List.range (b-a)).map fun k=>a+k:=by
 rcases Nat.lt_or_ge a b with c | c
 ·have up:(a:Int)<b:=by omega
  have many:(((b:Int)-a+1-1) / 1).toNat=b-a:=by rw[Int.ediv_one];omega
  have e:∀k:Nat,((a:Int)+1*(k:Int)).toNat=a+k:=fun k=>by omega
  simp only[sliceRange,gt_iff_lt,Int.one_pos,if_true,up,many,e]
 ·have no:¬((a:Int)<b):=by omega
  have z:b-a=0:=by omega
  simp only[sliceRange,gt_iff_lt,Int.one_pos,if_true,no,if_false,z,List.range_zero,List.map_nil]
  rfl
theorem asZ(l:List Nat)(n a:Nat):((List.range n).map fun k=>a+k).filterMap (fun i=>(Tx l).cps[i]?)=(l.drop a).take n:=by
 rw[List.filterMap_map]
 induction n with
 |zero=>rw[List.take_zero];rfl
 |succ n ih=>
  have one:[n].filterMap ((fun i=>(Tx l).cps[i]?) ∘ fun k=>a+k)=(l[a+n]?).toList:=by
   show List.filterMap _ [n]=_
   cases e:l[a+n]? <;>simp[e]
  rw[List.range_succ,List.filterMap_append,ih,one,List.take_add_one,List.getElem?_drop]
theorem aFX(l:List Nat)(lo hi:Option Int):(Builtin.Str.strSliceIndices lo hi 1 l.length).filterMap (fun i=>(Tx l).cps[i]?)=aeS l lo hi:=by
 rw[auA,ao4,asZ]
 rfl
theorem as2(l:List Nat)(lo hi:Option Int)(h:(Builtin.Str.strSliceIndices lo hi 1 l.length).length=l.length):aeS l lo hi=l:=by
 rw[auA,ao4,List.length_map,List.length_range] at h
 have h1:=HT.sIx_le l.length l.length (Nat.le_refl _) hi
 have e1:HT.sIx l.length 0 lo=0∨l.length=0:=by omega
 unfold aeS
 rcases e1 with e | e
 ·rw[e]
  have:HT.sIx l.length l.length hi=l.length:=by omega
  rw[this]
  simp
 ·have:l=[]:=List.eq_nil_of_length_eq_zero e
  subst this
  simp
theorem af3(l:List Nat)(lo hi:Option Int):(aeS l lo hi).length<=l.length:=by
 unfold aeS
 rw[List.length_take,List.length_drop]
 omega
section
variable{X:Cx}
def rSlX:V->Option Int->Option Int->Hp->VK->Prop:=fun x lo hi H Q=>∃l:List Nat,x=.str (Tx l)/\l.length<=sizeLine/\Q (.str (Tx (aeS l lo hi))) H
theorem slX:Sls X rSlX:=by
 refine⟨fun pins s σ H x v vl vu lo hi sl Q I rx hs pl pu h=>?_⟩
 obtain⟨l,rfl,hz,q⟩:=h
 obtain⟨t,rfl⟩:=rx
 refine⟨"str",_,PySem.F.slot_str_getitem.lookup,typeIs_str _ _ _,?_⟩
 obtain⟨o,ho,hc,hd⟩:=hs
 have fin:∀(a b:Option (Int×Tok)),o.data=.fields #[partValue a,partValue b,.none]->a.map (·.1)=lo->b.map (·.1)=hi->wpAny (model X.prog X.w) X.A (getItem (.str (Tx l) t) (.ref sl)) (EP X pins σ Q) X.xe s:=fun a b hd ea eb=>by
  refine wpAny_getItem_str_slice (l:=a) (u:=b) (st:=none) ⟨o,ho,hc,hd⟩ rfl ?_
  have ep:slicePicked (Tx l) a b none=Builtin.Str.strSliceIndices lo hi 1 l.length:=by unfold slicePicked;rw[ea,eb,abA];rfl
  unfold sliceMade
  rw[ep]
  split
  ·next hw=>
   have hw2:(Builtin.Str.strSliceIndices lo hi 1 l.length).length=l.length:=by
    have:=(Bool.and_eq_true_iff.mp hw).2
    rw[abA] at this
    exact beq_iff_eq.mp this
   show EP X pins σ Q _ s
   rw[as2 l lo hi hw2] at q
   exact⟨.str (Tx l),H,I,⟨t,rfl⟩,q⟩
  ·rw[aFX]
   exact⟨by rw[abA];exact Nat.le_trans (af3 l lo hi) hz,⟨.str (Tx (aeS l lo hi)),H,I.tok _,⟨_,rfl⟩,q⟩⟩
 cases pl with
 |none=>
  cases pu with
  |none=>exact fin none none hd rfl rfl
  |int j tj=>exact fin none (some (j,tj)) hd rfl rfl
 |int i ti=>
  cases pu with
  |none=>exact fin (some (i,ti)) none hd rfl rfl
  |int j tj=>exact fin (some (i,ti)) (some (j,tj)) hd rfl rfl
def two(n:Nat):List Nat:=(num (100+n)).drop 1
theorem aKM(m:Nat):num m≠[]:=fun e=>Nat.toDigits_ne_nil (List.map_eq_nil_iff.mp e)
end
section
variable{prog:Program}{w:World}{A:Around}{E:Value->Shared->Prop}{s:Shared}{I:Addr}{fp wr:List Addr}{G:Array GenState->Array GenState->Prop}{n:Nat}{P:Nat->Value->Prop}{St:Nat->Shared->Prop}
end
section
variable{X:Cx}{o e:Expr}{to te:TE}{p rpos apos cpos:Pos}
end
theorem aoD{X:Cx}{e:Expr}{t u:TE}(h:E X e t)(h':E X e u):E X e (fun σ H Q=>t σ H Q∨u σ H Q):=
 ⟨fun pins s σ H Q I z=>z.elim (fun z=>h.h pins s σ H Q I z) fun z=>h'.h pins s σ H Q I z⟩
section
variable{X:Cx}
end
section
variable{κ:Type}[DecidableEq κ]
def ai3(kvs:List (κ×V))(k:κ):Option V:=(kvs.find? fun kv=>decide (kv.1=k)).map (·.2)
def aBJ(kvs:List (κ×V))(k:κ)(v:V):List (κ×V):=
 if (kvs.any fun kv=>decide (kv.1=k))=true then kvs.map (fun kv=>if kv.1=k then (kv.1,v) else kv) else kvs++[(k,v)]
def aDQ(kvs:List (κ×V))(k:κ):List (κ×V):=kvs.filter fun kv=>decide (kv.1≠k)
theorem apF{p:κ×V}{r:List (κ×V)}{k:κ}(e:p.1=k):ai3 (p::r) k=some p.2:=by simp[ai3,List.find?_cons,e]
theorem ao6{p:κ×V}{r:List (κ×V)}{k:κ}(e:¬p.1=k):ai3 (p::r) k=ai3 r k:=by simp[ai3,List.find?_cons,e]
theorem KV.val{kvs:List (κ×V)}{vs:List (κ×Value)}(r:KV kvs vs)(k:κ):RelO (ai3 kvs k) (valueAt vs k):=by
 unfold KV at r
 induction r with
 |nil=>exact True.intro
 |@cons p q ps qs h t ih=>
  obtain⟨h1,h2⟩:=h
  by_cases e:p.1=k
  ·have e':q.1=k:=h1.symm.trans e
   have b:valueAt (q::qs) k=some q.2:=by simp[valueAt,List.find?_cons,e']
   rw[apF e,b];exact h2
  ·have e':¬q.1=k:=fun z=>e (h1.trans z)
   have b:valueAt (q::qs) k=valueAt qs k:=by simp[valueAt,List.find?_cons,e']
   rw[ao6 e,b];exact ih
theorem KV.any{kvs:List (κ×V)}{vs:List (κ×Value)}(r:KV kvs vs)(k:κ):(kvs.any fun kv=>decide (kv.1=k))=vs.any fun kv=>decide (kv.1=k):=by
 unfold KV at r
 induction r with
 |nil=>rfl
 |cons h t ih=>rw[List.any_cons,List.any_cons,ih,h.1]
theorem KV.drop{kvs:List (κ×V)}{vs:List (κ×Value)}(r:KV kvs vs)(k:κ):KV (aDQ kvs k) (without vs k):=by
 unfold KV at r ⊢
 unfold aDQ without
 induction r with
 |nil=>exact .nil
 |@cons p q ps qs h t ih=>
  obtain⟨h1,h2⟩:=h
  rw[List.filter_cons,List.filter_cons]
  by_cases e:p.1=k
  ·have a:¬decide (p.1≠k)=true:=by simp[e]
   have b:¬decide (q.1≠k)=true:=by simp[h1.symm.trans e]
   rw[if_neg a,if_neg b];exact ih
  ·have e':¬q.1=k:=fun z=>e (h1.trans z)
   have a:decide (p.1≠k)=true:=by simp[e]
   have b:decide (q.1≠k)=true:=by simp[e']
   rw[if_pos a,if_pos b];exact .cons ⟨h1,h2⟩ ih
theorem KV.length{kvs:List (κ×V)}{vs:List (κ×Value)}(r:KV kvs vs):kvs.length=vs.length:=Paired.length r
end
theorem aDZ{P:Program}{w:World}{k:Key}{u:Value}(r:RelV (kV k) u):(ab5 P w).is k u=true:=by
 cases k with
 |inl i=>obtain⟨t,e⟩:=(show ∃t,u=Value.int i t from r);subst e;exact aoH P w i t
 |inr x=>obtain⟨t,e⟩:=(show ∃t,u=Value.str x t from r);subst e;exact apN P w x t
theorem ac2{P:Program}{w:World}:∀{ks:List Key} {us:List Value},Vals (ks.map kV) us->ItemsAre (ab5 P w) ks us
 |[],_,r=>by rw[List.map_nil] at r;cases r;exact .nil
 |k::ks,_,r=>by
  rw[List.map_cons] at r
  cases r with
  |cons h t=>exact .cons (aDZ h) (ac2 t)
abbrev KT(H:Hp):List (List Key×V)->List (List Key×Addr×Value)->Prop:=Paired fun p q=>p.1=q.1/\H q.2.1=some (.tup (p.1.map kV))/\RelV p.2 q.2.2
theorem KT.val{H:Hp}{kvs:List (List Key×V)}{xs:List (List Key×Addr×Value)}(r:KT H kvs xs)(k:List Key):RelO (ai3 kvs k) ((atKey xs k).map (·.2)):=by
 induction r with
 |nil=>exact True.intro
 |@cons p q ps qs h t ih=>
  obtain⟨h1,_,h2⟩:=h
  by_cases e:p.1=k
  ·have e':q.1=k:=h1.symm.trans e
   have b:atKey (q::qs) k=some q.2:=by simp[atKey,List.find?_cons,e']
   rw[apF e,b];exact h2
  ·have e':¬q.1=k:=fun z=>e (h1.trans z)
   have b:atKey (q::qs) k=atKey qs k:=by simp[atKey,List.find?_cons,e']
   rw[ao6 e,b];exact ih
theorem KT.keeps{H H':Hp}{kvs:List (List Key×V)}{xs:List (List Key×Addr×Value)}(r:KT H kvs xs)(ht:∀b ys,H b=some (.tup ys)->H' b=some (.tup ys)):KT H' kvs xs:=
 Paired.mapP r fun _ _ z=>⟨z.1,ht _ _ z.2.1,z.2.2⟩
section
variable{P:Program}{w:World}{H:Hp}{h:Heap}{a:Addr}
end
def DGet(H:Hp)(a:Addr)(y:V)(r:Option V):Prop:=
 (∃kvs k,Rd H a (.dK kvs)/\y=kV k/\r=ai3 kvs k)∨∃kvs k b,Rd H a (.dT kvs)/\y=.ref b/\H b=some (.tup (k.map kV))/\r=ai3 kvs k
def DPut(H:Hp)(a:Addr)(y v:V)(H':Hp):Prop:=
 (∃kvs k,H a=some (.dK kvs)/\y=kV k/\kvs.length<sizeLine/\H'=upd H a (.dK (aBJ kvs k v)))∨
 ∃kvs k b,H a=some (.dT kvs)/\y=.ref b/\H b=some (.tup (k.map kV))/\kvs.length<sizeLine/\H'=upd H a (.dT (aBJ kvs k v))
theorem DGet.k{H:Hp}{a:Addr}{kvs:List (Key×V)}{k:Key}(e:H a=some (.dK kvs)):DGet H a (kV k) (ai3 kvs k):=.inl ⟨kvs,k,.inl e,rfl,rfl⟩
theorem DGet.t{H:Hp}{a b:Addr}{kvs:List (List Key×V)}{k:List Key}(e:H a=some (.dT kvs))(eb:H b=some (.tup (k.map kV))):DGet H a (.ref b) (ai3 kvs k):=.inr ⟨kvs,k,b,.inl e,rfl,eb,rfl⟩
theorem DPut.k{H:Hp}{a:Addr}{kvs:List (Key×V)}{k:Key}{v:V}(e:H a=some (.dK kvs))(hl:kvs.length<sizeLine):DPut H a (kV k) v (upd H a (.dK (aBJ kvs k v))):=.inl ⟨kvs,k,e,rfl,hl,rfl⟩
theorem DPut.t{H:Hp}{a b:Addr}{kvs:List (List Key×V)}{k:List Key}{v:V}(e:H a=some (.dT kvs))(eb:H b=some (.tup (k.map kV)))(hl:kvs.length<sizeLine):
  DPut H a (.ref b) v (upd H a (.dT (aBJ kvs k v))):=.inr ⟨kvs,k,b,e,rfl,eb,hl,rfl⟩
section
variable{X:Cx}{pins:List (Addr×Obj)}{σ:St}{H:Hp}{s:Shared}{a:Addr}{y v:V}{u r:Value}{o:Option V}{A:Around}{E:Value->Shared->Prop}
end
section
variable{X:Cx}{pins:List (Addr×Obj)}{σ:St}{H:Hp}{s:Shared}{a:Addr}{kvs:List (Key×V)}{k:Key}{u:Value}{A:Around}{E:Value->Shared->Prop}
end
def aLS(i:Expr):Prop:=∀ov iv,subscripted i false ov iv=operate [ov,iv] (getItem ov iv)
theorem aBZ{prog:Program}{w:World}{A:Around}{E:Value->Shared->Prop}{s:Shared}{env:Env}{value slice:Expr}{pos:Pos}{T id:String}{Q:Value->Shared->Prop}
  (hl:typeLookup (.type T) "__getitem__"=pure (some (.builtin id))) (hs:aLS slice)
  (h:wpAny (model prog w) A (eval value env) (fun o s₁=>wpAny (model prog w) A (eval slice env) (fun i s₂=>s₂.TypeIs o T/\wpAny (model prog w) A (getItem o i) Q E s₂) E s₁) E s):
  wpAny (model prog w) A (eval (.Subscript value slice pos) env) Q E s:=by
 refine Subscript_ (wpAny_mono h (fun o s₁ h₁=>wpAny_mono h₁ (fun i s₂ h₂=>?_) fun _ _ x=>x) fun _ _ x=>x)
 obtain⟨hT,h₂⟩:=h₂
 unfold subscriptTail
 refine wpAny_bind ?_
 rw[getitemInPython_of_ne hT.not_modules]
 refine wpAny_bind (wpAny_specialOf hT hl ?_)
 have fin:wpAny (model prog w) A (subscripted slice false o i) (fun r s₃=>wpAny (model prog w) A (letTemporaryGo value o r >>=fun _=>pure r) Q E s₃) E s₂:=by
  rw[hs o i]
  exact wpAny_operating (wpAny_mono h₂ (fun r s₃ h₃=>wpAny_bind (wpAny_letTemporaryGo (wpAny_pure h₃))) fun _ _ x=>x)
 first
  |exact wpAny_pure (wpAny_bind fin)
  |exact wpAny_bind (wpAny_pure (wpAny_bind fin))
  |exact wpAny_bind fin
section
variable{X:Cx}{o i e value:Expr}{pos pos' tpos:Pos}{td ty tv:TE}
end
section
variable{X:Cx}{pos:Pos}
end
section
variable{X:Cx}{pins:List (Addr×Obj)}{σ:St}{H:Hp}{s:Shared}{a:Addr}{y d:V}{u r:Value}{o:Option V}{A:Around}{E:Value->Shared->Prop}
end
section
variable{X:Cx}{o e f:Expr}{apos cpos:Pos}{td ty tx:TE}
end
section
variable{X:Cx}{pins:List (Addr×Obj)}{σ:St}{H:Hp}{s:Shared}{a:Addr}{kvs:List (Key×V)}{A:Around}{E:Value->Shared->Prop}
end
section
variable{X:Cx}{pins:List (Addr×Obj)}{σ:St}{H:Hp}{s:Shared}{a:Addr}{y:V}{u:Value}{A:Around}{E:Value->Shared->Prop}
end
section
variable{X:Cx}{k:Nat}{o i kx vx:Expr}{td ty tk tv:TE}{pos:Pos}{keys:List (Option Expr)}{values:List Expr}{trs:List (TE×TE)}
theorem aDU:Op2 X (binaryOp .Mult) aMI:=⟨aIT⟩
end
def Rise(xs:Array Nat):Prop:=xs.toList.Pairwise (·<·)
theorem Rise.lt{xs:Array Nat}(h:Rise xs){i k x y:Nat}(hi:xs[i]? =some x)(hk:xs[k]? =some y)(l:i<k):x<y:=by
 rw[←Array.getElem?_toList] at hi hk
 obtain⟨h1,e1⟩:=List.getElem?_eq_some_iff.mp hi
 obtain⟨h2,e2⟩:=List.getElem?_eq_some_iff.mp hk
 have:=List.pairwise_iff_getElem.mp h i k h1 h2 l
 rw[e1,e2] at this
 exact this
def Cut(xs:Array Nat)(j r:Nat):Prop:=r<=xs.size/\(∀i x,i<r->xs[i]? =some x->x<j)/\∀i x,r<=i->xs[i]? =some x->j<=x
theorem akF{xs:Array Nat}{j:Nat}(hr:Rise xs):∀fuel lo hi:Nat,lo<=hi->hi<=xs.size->hi-lo<=fuel->(∀i x,i<lo->xs[i]? =some x->x<j)->(∀i x,hi<=i->xs[i]? =some x->j<=x)->Cut xs j (SetTable.below.go xs j fuel lo hi)
 |0,lo,hi,h1,h2,h3,a,b=>by
  have e:lo=hi:=by omega
  subst e
  exact⟨h2,a,b⟩
 |f+1,lo,hi,h1,h2,h3,a,b=>by
  unfold SetTable.below.go
  by_cases c:lo<hi
  ·rw[if_pos c]
   have hm:(lo+hi) / 2<xs.size:=by omega
   have em:xs[(lo+hi) / 2]? =some xs[(lo+hi) / 2]:=Array.getElem?_eq_getElem hm
   have eg:xs.getD ((lo+hi) / 2) j=xs[(lo+hi) / 2]:=by rw[Array.getD_eq_getD_getElem?,em];rfl
   dsimp only
   rw[eg]
   by_cases d:xs[(lo+hi) / 2]<j
   ·rw[if_pos d]
    refine akF hr f _ _ (by omega) h2 (by omega) (fun i x hl hx=>?_) b
    by_cases q:i=(lo+hi) / 2
    ·subst q
     rw[em] at hx
     cases hx
     exact d
    ·exact Nat.lt_trans (hr.lt hx em (by omega)) d
   ·rw[if_neg d]
    refine akF hr f _ _ (by omega) (by omega) (by omega) a fun i x hl hx=>?_
    by_cases q:i=(lo+hi) / 2
    ·subst q
     rw[em] at hx
     cases hx
     omega
    ·have:=hr.lt em hx (by omega)
     omega
  ·rw[if_neg c]
   have e:lo=hi:=by omega
   subst e
   exact⟨h2,a,b⟩
theorem ag4{xs:Array Nat}(hr:Rise xs)(j:Nat):Cut xs j (SetTable.below xs j):=
 akF hr _ _ _ (Nat.zero_le _) (Nat.le_refl _) (Nat.le_refl _) (fun _ _ h=>absurd h (Nat.not_lt_zero _)) fun i x h hx=>by
  obtain⟨z,_⟩:=Array.getElem?_eq_some_iff.mp hx
  omega
theorem aAC{xs:Array Nat}{j:Nat}(hr:Rise xs)(h:(xs[SetTable.below xs j]? ==some j)=false):∀x∈xs.toList,x≠j:=fun x hx e=>by
 obtain⟨i,hi,ei⟩:=List.mem_iff_getElem.mp hx
 have e1:xs[i]? =some x:=by rw[←Array.getElem?_toList,List.getElem?_eq_getElem hi,ei]
 subst e
 obtain⟨c1,c2,c3⟩:=ag4 hr x
 have h1:¬i<SetTable.below xs x:=fun z=>Nat.lt_irrefl _ (c2 i x z e1)
 by_cases q:i=SetTable.below xs x
 ·rw[←q,e1] at h
  simp at h
 ·have hs:SetTable.below xs x<xs.size:=by
   obtain⟨z,_⟩:=Array.getElem?_eq_some_iff.mp e1
   omega
  have e2:xs[SetTable.below xs x]? =some xs[SetTable.below xs x]:=Array.getElem?_eq_getElem hs
  have:=c3 _ _ (Nat.le_refl _) e2
  have:=hr.lt e2 e1 (by omega)
  omega
theorem awX{α:Type}(xs:Array α)(p:Nat)(x:α):(SetTable.insertAt xs p x).toList=xs.toList.take p++x::xs.toList.drop p:=by
 unfold SetTable.insertAt
 simp[List.extract_eq_drop_take]
 exact List.take_of_length_le (by rw[List.length_drop,Array.length_toList];exact Nat.le_refl _)
theorem avI{xs:Array Nat}{j:Nat}(hr:Rise xs)(hn:∀x∈xs.toList,x≠j):Rise (SetTable.insertAt xs (SetTable.below xs j) j):=by
 obtain⟨c1,c2,c3⟩:=ag4 hr j
 unfold Rise
 rw[awX,List.pairwise_append,List.pairwise_cons]
 have hlow:∀a∈xs.toList.take (SetTable.below xs j),a<j:=fun a ha=>by
  obtain⟨i,hi,e⟩:=List.mem_iff_getElem.mp ha
  rw[List.getElem_take] at e
  rw[List.length_take] at hi
  have h2:i<xs.toList.length:=by omega
  exact c2 i a (by omega) (by rw[←Array.getElem?_toList,List.getElem?_eq_getElem h2,e])
 have hhigh:∀b∈xs.toList.drop (SetTable.below xs j),j<b:=fun b hb=>by
  have hb':=List.mem_of_mem_drop hb
  obtain⟨i,hi,e⟩:=List.mem_iff_getElem.mp hb
  rw[List.getElem_drop] at e
  rw[List.length_drop] at hi
  have h2:SetTable.below xs j+i<xs.toList.length:=by omega
  have:=c3 (SetTable.below xs j+i) b (by omega) (by rw[←Array.getElem?_toList,List.getElem?_eq_getElem h2,e])
  have:=hn b hb'
  omega
 refine⟨List.Pairwise.sublist (List.take_sublist _ _) hr,⟨hhigh,List.Pairwise.sublist (List.drop_sublist _ _) hr⟩,fun a ha b hb=>?_⟩
 rcases List.mem_cons.mp hb with rfl | hb
 ·exact hlow a ha
 ·exact Nat.lt_trans (hlow a ha) (hhigh b hb)
theorem aqU(n:Nat):Rise (Array.range n):=by
 unfold Rise
 rw[Array.toList_range]
 exact List.pairwise_lt_range
structure Tab(led:Bool)(t:SetTable):Prop where
 rise:Rise t.place
 dum:t.dummies= #[]
 led:t.led=led
theorem apH(j:Nat):SetTable.has #[] j=false:=by
 unfold SetTable.has
 simp
theorem ahR{t:SetTable}{led:Bool}(T:Tab led t){h:Int}:∀(f:Nat) (p:SetTable.Probe) (j:Nat) (d:Option Nat),p.dummy=none->SetTable.probe.go t (fun _=>h+1) h f p=some (.empty j d)->d=none/\(t.place[SetTable.below t.place j]? ==some j)=false
 |0,_,_,_,_,e=>by unfold SetTable.probe.go at e;cases e
 |f+1,p,j,d,hp,e=>by
  unfold SetTable.probe.go at e
  split at e
  ·next hs=>
   cases e
   refine⟨hp,?_⟩
   unfold SetTable.slot at hs
   dsimp only at hs
   split at hs
   ·cases hs
   ·next q=>simpa using q
  ·next hs=>
   unfold SetTable.slot at hs
   dsimp only at hs
   split at hs
   ·cases hs
   ·rw[T.dum,apH] at hs
    cases hs
  ·rw[if_neg (by simp;omega)] at e
   refine ahR T f _ j d ?_ e
   unfold SetTable.advance
   split
   ·exact hp
   ·exact hp
theorem aeK{led:Bool}{t:SetTable}(T:Tab led t)(n:Nat):Tab led (t.standIn n):=⟨aqU n,rfl,T.led⟩
theorem aK9{led:Bool}{t:SetTable}(T:Tab led t)(n:Nat):Tab led (t.orStandIn n):=by
 unfold SetTable.orStandIn
 split
 ·exact T
 ·exact aeK T n
theorem ay9{led:Bool}{t:SetTable}(T:Tab led t)(es:Array (Int×Value))(h:Int)(x:Value):Tab led (layNew t es h x).2.1:=by
 unfold layNew
 split
 ·next slot wd hf=>
  dsimp only
  refine aK9 ?_ _
  unfold SetTable.freeSlot at hf
  split at hf
  ·next j d hp=>
   obtain⟨rfl,hn⟩:=ahR T _ _ j d rfl hp
   cases hf
   refine⟨avI T.rise (aAC T.rise hn),?_,T.led⟩
   show (if SetTable.has t.dummies j=true then _ else t.dummies)=_
   rw[T.dum,apH]
   rfl
  ·cases hf
 ·exact aeK T _
theorem asS{led:Bool}{t:SetTable}(T:Tab led t)(es:Array (Int×Value))(n:Nat):Tab led (relayAll t es n).2.1:=by
 unfold relayAll
 split
 ·next t' order hl=>
  dsimp only
  split
  ·unfold SetTable.relaid SetTable.laid at hl
   cases ho:SetTable.layClean (SetTable.sizeAbove n-1) (es.map (·.1)) with
   |none=>rw[ho] at hl;cases hl
   |some owner=>
    rw[ho] at hl
    cases hl
    refine⟨?_,rfl,T.led⟩
    unfold Rise
    dsimp only
    have key:∀(l:List Nat),l.Pairwise (·<·)->((l.filterMap fun j=>(owner.getD j none).map (j,·)).map (·.1)).Pairwise (·<·):=fun l hl=>by
     have e:(l.filterMap fun j=>(owner.getD j none).map (j,·)).map (·.1)=l.filter fun j=>(owner.getD j none).isSome:=by
      induction l with
      |nil=>rfl
      |cons a l ih=>
       have ih:=ih (List.pairwise_cons.mp hl).2
       cases q:owner.getD a none with
       |none=>rw[List.filterMap_cons_none (by rw[q];rfl),List.filter_cons_of_neg (by rw[q];simp),ih]
       |some b=>rw[List.filterMap_cons_some (by rw[q];rfl),List.filter_cons_of_pos (by rw[q];rfl),List.map_cons,ih]
     rw[e]
     exact List.Pairwise.sublist List.filter_sublist hl
    exact key _ List.pairwise_lt_range
  ·exact aeK T _
 ·exact aeK T _
def zOf:Value->Int
 |.int z _=>z
 |_=>0
def abR(es:Array (Int×Value)):List Int:=es.toList.map fun e=>zOf e.2
def aoT(w:World):Bool:= !(w.params.followText "set-order")
structure SetE(prog:Program)(w:World)(es:Array (Int×Value))(t:SetTable):Prop where
 el:ElemsOf (intKind prog w) es.toList
 nd:(abR es).Nodup
 sz:es.size<scanBound
 fit:t.fits es.size=true
 tab:Tab (aoT w) t
abbrev aaS(es:Array (Int×Value))(ep:Nat)(t:SetTable):Obj:={cls:=.type "set",dict:=none,data:=.set es ep t,slots:= #[]}
section
variable{prog:Program}{w:World}{A:Around}{E:Value->Shared->Prop}{s:Shared}{a:Addr}{es:Array (Int×Value)}{ep:Nat}{t:SetTable}{z:Int}{tk:Tok}
theorem awA{k:Int}{v:Value}(h:(intKind prog w).is k v=true):∃t,v=.int k t:=Value.isInt_shape h
theorem axV{e:Int×Value}(h:ElemsOf (intKind prog w) es.toList)(he:e∈es.toList):∃t,e.2=.int (zOf e.2) t:=by
 obtain⟨⟨k,hk,_⟩,_⟩:=h e he
 obtain⟨t,e2⟩:=awA hk
 exact⟨t,by rw[e2];rfl⟩
theorem arJ{es es':Array (Int×Value)}(p:es'.toList.Perm es.toList):(abR es').Perm (abR es):=p.map _
theorem arV(hS:s.heap.get? a=some (aaS es ep t)){es':Array (Int×Value)}{t':SetTable}:(s.heap.update a (Obj.putSet es' t')).get? a=some (aaS es' (ep+1) t'):=
 Heap.get?_update_self (Obj.putSet es' t') hS rfl
theorem aw5{Q:Bool->Shared->Prop}(hS:s.heap.get? a=some (aaS es ep t))(X:SetE prog w es t)(room:es.size+1<scanBound)
  (k:∀h' es' ep' t' b,Heap.SameBut a s.heap h'->h'.get? a=some (aaS es' ep' t')->SetE prog w es' t'->(∀x,x∈abR es'↔x∈abR es∨x=z)->es'.size<=es.size+1->Q b {s with heap:=h'}):
  wpAny (model prog w) A (setAddHashed a (.int z tk) ((intKind prog w).hash z)) Q E s:=by
 have key:(intKind prog w).is z (.int z tk)=true:=intKind_is _ _ _ _
 unfold setAddHashed setAddHashedIn
 refine wpAny_holding (wpAny_bind (wpAny_setState_of hS rfl X.fit ?_))
 dsimp only
 rw[byScan_of (knd:=intKind prog w) (x:=.int z tk) rfl X.sz X.el,if_pos rfl]
 unfold setAddByScan
 refine wpAny_bind (wpAny_bind (wpAny_rule (wpAny_bind (wpAny_setScan_of key hS rfl X.fit X.el ?_))))
 cases hr:List.findIdx? (fun e=>(intKind prog w).is z e.2) es.toList with
 |some j=>
  dsimp only
  obtain⟨hj,pj,_⟩:=List.findIdx?_eq_some_iff_getElem.mp hr
  have hz:z∈abR es:=List.mem_map.mpr ⟨es.toList[j],List.getElem_mem hj,by obtain⟨t2,e2⟩:=awA pj;rw[e2];rfl⟩
  refine wpAny_pure (wpAny_pure ?_)
  exact k s.heap es ep t _ (Heap.SameBut.refl a s.heap) hS X (fun x=>⟨.inl,fun h=>h.elim id fun e=>e▸hz⟩) (Nat.le_succ _)
 |none=>
  dsimp only
  have hz:z∉abR es:=fun hm=>by
   obtain⟨e,he,ez⟩:=List.mem_map.mp hm
   obtain⟨t2,e2⟩:=axV X.el he
   have:=List.findIdx?_eq_none_iff.mp hr e he
   rw[e2,ez,intKind_is] at this
   cases this
  have hperm:=layNew_perm t es ((intKind prog w).hash z) (.int z tk)
  have hfits:=layNew_fits t es ((intKind prog w).hash z) (.int z tk)
  have htab:=ay9 X.tab es ((intKind prog w).hash z) (.int z tk)
  generalize layNew t es ((intKind prog w).hash z) (.int z tk)=L at hperm hfits htab ⊢
  obtain⟨es1,t1,wd,gave⟩:=L
  dsimp only at hperm hfits htab ⊢
  rw[Array.toList_push] at hperm
  have el1:ElemsOf (intKind prog w) es1.toList:=(X.el.push key rfl).perm hperm
  have zp:(abR es1).Perm (abR es++[z]):=by
   have:=hperm.map fun e:Int×Value=>zOf e.2
   rw[List.map_append] at this
   exact this
  have nd1:(abR es1).Nodup:=zp.nodup_iff.mpr (List.nodup_append.mpr ⟨X.nd,by simp,fun x hx y hy e=>by
   rw[List.mem_singleton] at hy
   exact hz (hy▸e▸hx)⟩)
  have mem1:∀x,x∈abR es1↔x∈abR es∨x=z:=fun x=>by rw[zp.mem_iff,List.mem_append,List.mem_singleton]
  have sz1:es1.size=es.size+1:=by rw[←Array.length_toList,hperm.length_eq,List.length_append,Array.length_toList];rfl
  have X1:∀pl:Bool,SetE prog w es1 {t1 with plain:=pl}:=fun pl=>⟨el1,nd1,by rw[sz1];exact room,hfits,⟨htab.rise,htab.dum,htab.led⟩⟩
  have tail:∀(t2:SetTable),SetE prog w es1 t2->∀(g:Bool->Sem Unit),(∀(b:Bool) (s₁:Shared) (Q':Unit->Shared->Prop),Q' () s₁->wpAny (model prog w) A (g b) Q' E s₁)->∀R:Option Bool->Shared->Prop,
    (∀h' es' ep' t' ,Heap.SameBut a s.heap h'->h'.get? a=some (aaS es' ep' t')->SetE prog w es' t'->(∀x,x∈abR es'↔x∈abR es∨x=z)->es'.size<=es.size+1->R (some true) {s with heap:=h'})->
    wpAny (model prog w) A (do
     storeSet a es1 t2
     if (!wd&&t2.tooFull)=true then do
       g (relayAll t2 es1 (SetTable.grown es1.size)).2.2
       storeSet a (relayAll t2 es1 (SetTable.grown es1.size)).1 (relayAll t2 es1 (SetTable.grown es1.size)).2.1
       pure (some true)
      else pure (some true)) R E s:=fun t2 X2 g hg R hR=>by
   refine wpAny_bind (wpAny_storeSet_of hS rfl ?_ (fits_of_scanBound X2.sz))
   have e1:=arV hS (es':=es1) (t':=t2)
   have b1:=Heap.SameBut.update s.heap a (Obj.putSet es1 t2)
   split
   ·have hp:=relayAll_perm t2 es1 (SetTable.grown es1.size)
    have hf:=relayAll_fits t2 es1 (SetTable.grown es1.size)
    have ht:=asS X2.tab es1 (SetTable.grown es1.size)
    generalize relayAll t2 es1 (SetTable.grown es1.size)=R2 at hp hf ht ⊢
    obtain⟨es2,t3,gave2⟩:=R2
    dsimp only at hp hf ht ⊢
    have sz2:es2.size=es1.size:=by rw[←Array.length_toList,hp.length_eq,Array.length_toList]
    have X3:SetE prog w es2 t3:=⟨X2.el.perm hp,(arJ hp).nodup_iff.mpr X2.nd,by rw[sz2];exact X2.sz,hf,ht⟩
    refine wpAny_bind (hg _ _ _ (wpAny_bind (wpAny_storeSet_of e1 rfl ?_ (fits_of_scanBound X3.sz))))
    exact wpAny_pure (hR _ es2 _ t3 (b1.trans (Heap.SameBut.update _ a _)) (arV (s:={s with heap:=s.heap.update a (Obj.putSet es1 t2)}) e1) X3 (fun x=>by rw[(arJ hp).mem_iff];exact mem1 x) (by rw[sz2,sz1];exact Nat.le_refl _))
   ·exact wpAny_pure (hR _ es1 _ t2 b1 e1 X2 mem1 (Nat.le_of_eq sz1))
  have fin:∀h' es' ep' t' ,Heap.SameBut a s.heap h'->h'.get? a=some (aaS es' ep' t')->SetE prog w es' t'->(∀x,x∈abR es'↔x∈abR es∨x=z)->es'.size<=es.size+1->Q true {s with heap:=h'}:=fun h' es' ep' t'=>k h' es' ep' t' true
  have gw:∀(b:Bool) (s₁:Shared) (Q':Unit->Shared->Prop),Q' () s₁->wpAny (model prog w) A (match b with | true=>rule "set.scan.the-table-gave-way" | false=>pure ()) Q' E s₁:=fun b s₁ Q' hq=>by
   cases b
   ·exact wpAny_pure hq
   ·exact wpAny_rule hq
  refine wpAny_bind (gw gave _ _ ?_)
  have X1':SetE prog w es1 t1:=X1 t1.plain
  split
  ·refine wpAny_bind ?_
   rw[hashByValue_scannable 8 (show (Value.int z tk).scannable=true from rfl)]
   refine wpAny_pure ?_
   exact tail t1 X1' _ gw _ fun h' es' ep' t' b e x m l=>wpAny_pure (fin h' es' ep' t' b e x m l)
  ·refine wpAny_bind (wpAny_pure ?_)
   exact tail t1 X1' _ gw _ fun h' es' ep' t' b e x m l=>wpAny_pure (fin h' es' ep' t' b e x m l)
end
section
variable{prog:Program}{w:World}{A:Around}{R:Result->Shared->Prop}{I:Addr}{fp wr:List Addr}{G:Array GenState->Array GenState->Prop}{n:Nat}{P:Nat->Value->Prop}{St:Nat->Shared->Prop}
theorem ao5{args:Args}{s:Shared}(h:wpAny (model prog w) A.in1 (Builtin.«set.update.loop» args) (fun x s'=>match x with | .done q=>R (.ok q) s' | .again c=>c.quiet=true/\codeAny (model prog w) A c R s') (fun x s'=>R (.error x) s') s):codeAny (model prog w) A (.builtin "set.update.loop" args) R s:=
 codeAny_builtin F.entry_set_update_loop (by rw[Around.under_plainId F.plain_set_update_loop args];exact h)
theorem atH(W:WalksS prog w A.in1 I fp wr G n P St){S:Addr}(out:S∉fp){val:Nat->Int}(hval:∀i v,P i v->∃t,v=.int (val i) t)(hb:n+1<scanBound):
  ∀(k i:Nat) (s:Shared) (es:Array (Int×Value)) (ep:Nat) (t:SetTable),n-i=k->i<=n->St i s->s.heap.get? S=some (aaS es ep t)->SetE prog w es t->(∀x,x∈abR es↔∃j,j<i/\val j=x)->es.size<=i->
   (∀s' es' ep' t',Moved (S::wr) G s s'->s'.heap.get? S=some (aaS es' ep' t')->SetE prog w es' t'->(∀x,x∈abR es'↔∃j,j<n/\val j=x)->R (.ok (.ret .none)) s')->
   codeAny (model prog w) A (.builtin "set.update.loop" {pos:=[.ref S,.ref I]}) R s:=by
 have nw:S∉wr:=fun z=>out (W.sub _ z)
 have sub:∀b∈wr,b∈S::wr:=fun b hb=>List.mem_cons_of_mem _ hb
 intro k
 induction k with
 |zero=>
  intro i s es ep t hk hi st hS X hm hz hR
  obtain rfl:i=n:=by omega
  refine ao5 ?_
  unfold Builtin.«set.update.loop»
  refine wpAny_bind (W.done s _ _ st fun s' mv=>?_)
  exact wpAny_pure (hR s' es ep t (mv.mono sub) (mv.heap S _ nw hS) X hm)
 |succ k ih=>
  intro i s es ep t hk hi st hS X hm hz hR
  have lt:i<n:=by omega
  refine ao5 ?_
  unfold Builtin.«set.update.loop»
  refine wpAny_bind (W.item i s _ _ lt st fun v s1 hP st1 mv=>?_)
  obtain⟨tk,rfl⟩:=hval i v hP
  have S1:=mv.heap S _ nw hS
  unfold setAdd
  refine wpAny_bind (wpAny_holding (wpAny_holding (wpAny_bind ((intKind prog w).pyHash (k:=val i) (intKind_is _ _ _ _) (aw5 (s:={s1 with toks:=s1.toks+1}) S1 X (by omega) fun h' es' ep' t' b sb S2 X2 m2 z2=>?_)))))
  refine wpAny_pure ⟨plainId_quiet F.plain_set_update_loop _,ih (i+1) _ es' ep' t' (by omega) lt (W.frame _ s1 _ _ st1 (Nat.le_succ _) fun c hc o e=>?_) S2 X2 (fun x=>?_) (by omega) fun s2 es2 ep2 t2 mv2 S3 X3 m3=>?_⟩
  ·rw[sb.2 c fun z=>out (z▸hc)]
   exact e
  ·rw[m2,hm]
   constructor
   ·rintro (⟨j,hj,e⟩ | rfl)
    ·exact⟨j,by omega,e⟩
    ·exact⟨i,by omega,rfl⟩
   ·rintro⟨j,hj,e⟩
    by_cases c:j=i
    ·subst c;exact .inr e.symm
    ·exact .inl ⟨j,by omega,e⟩
  ·refine hR s2 es2 ep2 t2 (Moved.trans W.gtrans ((mv.mono sub).then_heap (Nat.le_succ _) fun c o hc e=>?_) mv2) S3 X3 m3
   rw[sb.2 c fun z=>hc (z▸List.mem_cons_self)]
   exact e
end
section
variable{prog:Program}{w:World}{A:Around}{E:Value->Shared->Prop}{s:Shared}
abbrev amF(w:World):Obj:=aaS #[] 0 (.fresh 0 0 (aoT w))
theorem aOC:SetE prog w #[] (.fresh 0 0 (aoT w)):=⟨fun _ h=>by simp at h,by simp[abR],by decide,rfl,⟨by unfold Rise;simp[SetTable.fresh],rfl,rfl⟩⟩
theorem at4(a:Value){Q₁:Value->Shared->Prop}(h:Q₁ (.ref s.heap.objs.size) {s with heap:=s.heap.push (amF w)}):codeAny (model prog w) A (.call (.builtin "set.__new__") ⟨[.type "set",a],[]⟩) (wants Q₁ E) s:=by
 have own:=sub_set_self
 refine codeAny_of_tree (wpAny_bind (m:=checkBuiltinCall "set.__new__" {pos:=[.type "set",a]}) (wpAny_of_eq (F.newCall_set_1 a) (wpAny_pure ⟨plainId_quiet F.plain_set_new _,codeAny_builtin F.entry_set_new ?_⟩)))
 rw[Around.under_plainId F.plain_set_new {pos:=[.type "set",a]}]
 simp only[Builtin.«set.__new__»,Builtin.Frozenset.newClass]
 obtain⟨h0,g0,d0,t0,o0⟩:=s
 wp_walk
 refine wpAny_askSetting (wpAny_pure ?_)
 dsimp only
 simp only[newObj]
 exact wpAny_bind (wpAny_alloc (wpAny_pure (wpAny_pure h)))
set_option maxHeartbeats 3200000 in
theorem atO{l:Addr}{items:Array Value}{ns:List Int}{Q:Value->Shared->Prop}(hh:A.handled=none)(hl:s.heap.IsList l items)(hi:IntsAre items.toList ns)(hb:items.size+1<scanBound)
  (k:∀(h':Heap) (tk:Nat) (es:Array (Int×Value)) (ep:Nat) (t:SetTable),h'.get? s.heap.objs.size=some (aaS es ep t)->SetE prog w es t->(∀x,x∈abR es↔x∈ns)->(∀b o,s.heap.get? b=some o->h'.get? b=some o)->Q (.ref s.heap.objs.size) {s with heap:=h',toks:=tk}):
  wpAny (model prog w) A (call (.type "set") [.ref l]) Q E s:=by
 obtain⟨⟨c0,tl0,m0⟩,m1,m2,m3,m4,m5⟩:=And.intro F.called_set.mro (And.intro F.called_set.made (And.intro F.called_set.sub (And.intro F.called_set.notType (And.intro F.called_set.canCreate (F.typeCall_set_1 (.ref l))))))
 refine wpAny_call (codeAny_of_tree (show wpAny _ _ (callAny (.type "set") _) _ _ _ from wpAny_pure ⟨Code.quiet_builtin _ (by decide +kernel),codeAny_builtin F.entry_type_call ?_⟩))
 rw[Around.under_plain (weight_type_call_type "set" [.ref l] []) (by rfl)]
 repeat any_goals (first | assumption | wp_step)
 refine codeAny_mono (at4 (.ref l) (E:=E) (Q₁:=fun obj s₁=>obj=.ref s.heap.objs.size/\s₁={s with heap:=s.heap.push (amF w)}) ⟨rfl,rfl⟩) fun r s₁ hr=>?_
 cases r with
 |error e=>exact hr
 |ok fl=>
  cases fl with
  |ret obj=>
   obtain⟨rfl,rfl⟩:=hr
   have hS:(s.heap.push (amF w)).get? s.heap.objs.size=some (amF w):=Heap.get?_push_size _ rfl
   have hT:Shared.TypeIs {s with heap:=s.heap.push (amF w)} (.ref s.heap.objs.size) "set":=⟨_,hS,rfl⟩
   obtain⟨i1,i2⟩:=And.intro F.called_set.init.lookup (F.called_set.init.bind (.ref s.heap.objs.size))
   repeat any_goals (first | assumption | wp_step)
   refine codeAny_mono (codeAny_call_builtin (R:=wants (fun r s₂=>r=.none/\∃h' tk es ep t,s₂={s with heap:=h',toks:=tk}/\h'.get? s.heap.objs.size=some (aaS es ep t)/\SetE prog w es t/\(∀x,x∈abR es↔x∈ns)/\(∀b o,s.heap.get? b=some o->h'.get? b=some o)) E) F.called_set.init.plain F.entry_set_init (check_set_init_1 hT ?_)) fun r₂ s₂ hr₂=>?_
   ·obtain⟨⟨oc,od,odt,osl⟩,hol,hcl,nl,hdl⟩:=hl
    cases hcl
    cases hdl
    have hol':=Heap.get?_push_of_some (amF w) hol
    have s1:=F.sub_list_set
    have s2:=F.sub_list_frozenset
    have ne:(Value.type "list"==Value.type "dict")=false:=by decide
    have hl1:(s.heap.push (amF w)).IsList l items:=⟨_,hol',rfl,nl,rfl⟩
    simp only[Builtin.«set.__init__»,noKeywords,Builtin.Frozenset.updateFrom]
    generalize hPI:pyIter=PI
    wp_walk
    subst hPI
    refine wpAny_pyIter_list hl1 (wpAny_bind (wpAny_runValue ?_))
    have ll:l<s.heap.objs.size:=Heap.lt_size hol
    have h3:A.in1.in1.in1.handled=none:=by simp[hh]
    have nI:l≠(s.heap.push (amF w)).objs.size:=by rw[Heap.size_push];exact Nat.ne_of_lt (Nat.lt_succ_of_lt ll)
    have out:s.heap.objs.size∉[(s.heap.push (amF w)).objs.size,l]:=by
     rw[Heap.size_push]
     simp only[List.mem_cons,List.not_mem_nil,or_false,not_or]
     exact⟨Nat.ne_of_lt (Nat.lt_succ_self _),Nat.ne_of_gt ll⟩
    have val:∀(i:Nat) (v:Value),items[i]? =some v->∃t,v=.int ((fun i=>ns.getD i 0) i) t:=fun i v hv=>IntsAre.int_at hi i v (by rw[Array.getElem?_toList];exact hv)
    have ln:items.size=ns.length:=by rw[←Array.length_toList];exact IntsAre.length hi
    refine atH ((Walks.list h3 _ l nI items).toS) out val hb (items.size-0) 0 _ #[] 0 (.fresh 0 0 (aoT w)) (by omega) (Nat.zero_le _) ⟨⟨_,Heap.get?_push_size _ rfl,rfl,rfl⟩,hl1.push _⟩ (Heap.get?_push_of_some _ hS) aOC (fun x=>⟨fun z=>by simp[abR] at z,fun ⟨j,hj,_⟩=>absurd hj (Nat.not_lt_zero _)⟩) (Nat.le_refl _) fun s' es ep t mv S' X' m'=>?_
    obtain⟨h',g',d',tk',os'⟩:=s'
    have eg:g'=s.gens:=mv.gens
    have ed:d'=s.drawn:=mv.drawn
    have eo:os'=s.os:=mv.os
    subst eg;subst ed;subst eo
    refine wpAny_pure (wpAny_pure ⟨rfl,h',tk',es,ep,t,rfl,S',X',fun x=>?_,fun b o e=>?_⟩)
    ·rw[m' x,ln]
     constructor
     ·rintro⟨j,hj,rfl⟩
      have:ns.getD j 0=ns[j]:=by rw[List.getD_eq_getElem?_getD,List.getElem?_eq_getElem hj];rfl
      rw[this]
      exact List.getElem_mem hj
     ·intro hx
      obtain⟨j,hj,e⟩:=List.mem_iff_getElem.mp hx
      exact⟨j,hj,by rw[List.getD_eq_getElem?_getD,List.getElem?_eq_getElem hj];exact e⟩
    ·have lb:=Heap.lt_size e
     refine mv.heap b o ?_ (Heap.get?_push_of_some _ (Heap.get?_push_of_some _ e))
     rw[Heap.size_push]
     simp only[List.mem_cons,List.not_mem_nil,or_false,not_or]
     exact⟨Nat.ne_of_lt lb,Nat.ne_of_lt (Nat.lt_succ_of_lt lb)⟩
   ·cases r₂ with
    |error e=>exact hr₂
    |ok fl₂=>
     cases fl₂ with
     |ret r=>
      obtain⟨rfl,h',tk,es,ep,t,rfl,S',X',m',k'⟩:=hr₂
      repeat any_goals (first | assumption | wp_step)
      exact k h' tk es ep t S' X' m' k'
     |_=>exact hr₂.elim
  |_=>exact hr.elim
end
theorem afF{α:Type}:∀(l:List α) (i:Nat) (h:i<l.length),(l[i]::l.eraseIdx i).Perm l
 |[],i,h=>by cases h
 |x::r,0,h=>List.Perm.refl _
 |x::r,i+1,h=>(List.Perm.swap x (r[i]'(by simpa using h)) _).trans (List.Perm.cons x (afF r i (by simpa using h)))
theorem ar7{α:Type}(next:Nat->Nat):∀(f k:Nat) (left:List α) (out:Array α),left.length=f->(pickOrder.go next f k left out).toList.Perm (out.toList++left)
 |0,k,left,out,h=>by
  rw[List.length_eq_zero_iff.mp h,List.append_nil]
  exact List.Perm.refl _
 |f+1,k,left,out,h=>by
  have hl:next k%left.length<left.length:=Nat.mod_lt _ (by omega)
  unfold pickOrder.go
  rw[List.getElem?_eq_getElem hl]
  dsimp only
  refine (ar7 next f (k+1) (left.eraseIdx (next k%left.length)) (out.push left[next k%left.length]) (by rw[List.length_eraseIdx_of_lt hl,h];rfl)).trans ?_
  rw[Array.toList_push,List.append_assoc]
  exact List.Perm.append_left _ (afF _ _ hl)
theorem as1{α:Type}(next:Nat->Nat)(xs:Array α):(pickOrder next xs).toList.Perm xs.toList:=by
 have:=ar7 next xs.size 0 xs.toList #[] (Array.length_toList)
 rw[show (#[]:Array α).toList=[] from rfl,List.nil_append] at this
 exact this
section
variable{M:Model}{A:Around}{E:Value->Shared->Prop}{s:Shared}
theorem anK{src:Source}{n:Nat}{Q:Nat->Shared->Prop}(hn:n≠0)(h:∀i d,i<n->Q i {s with drawn:=d}):wpAny M A (choose src n) Q E s:=fun Γ p hΓ=>⟨hn,h _ _ (Nat.mod_lt _ (Nat.pos_of_ne_zero hn))⟩
theorem alV{α:Type}:∀(n:Nat) (xs:List α) (s:Shared) (Q:List α->Shared->Prop),xs.length=n->(∀ys d,ys.Perm xs->Q ys {s with drawn:=d})->wpAny M A (drawOrder n xs) Q E s
 |0,xs,s,Q,hn,h=>by
  rw[List.length_eq_zero_iff.mp hn] at h ⊢
  exact wpAny_pure (h [] s.drawn (List.Perm.refl _))
 |n+1,[],s,Q,hn,h=>by cases hn
 |n+1,x::r,s,Q,hn,h=>by
  unfold drawOrder
  refine wpAny_bind (anK (by simp) fun i d hi=>?_)
  rw[List.getElem?_eq_getElem hi]
  refine wpAny_bind (alV n _ _ _ (by rw[List.length_eraseIdx_of_lt hi,hn];rfl) fun ys d2 hp=>wpAny_pure (h _ d2 ?_))
  exact (List.Perm.cons _ hp).trans (afF _ _ hi)
end
theorem aj4:entryFor table "set.__iter__"=some Builtin.«frozenset.__iter__»:=entryFor_alias (id':="frozenset.__iter__") (by decide +kernel) (by decide +kernel) (by decide +kernel) (by kernel_rfl)
theorem slot_set_itn:Slot "set_iterator" "__next__" "set_iterator.__next__":=
 .of (owner:="set_iterator") (n:="__next__") (by rw[typeLookup_type,builtinLookup_eq_fast];kernel_rfl) (by decide +kernel) (by decide +kernel) (by decide +kernel)
  (by first | exact .inl (by decide +kernel) | exact .inr (by decide +kernel)) (by rw[isSubtype_type];kernel_rfl)
theorem afB:entryFor table "set_iterator.__next__"=some Builtin.«set_iterator.__next__»:=entryFor_of_tree (by kernel_rfl)
theorem afW(a:Value):argsOk "set_iterator.__next__" ⟨[a],[]⟩:=by unfold argsOk;kernel_rfl
abbrev sit(first:Value)(i:Nat)(a:Addr)(n ep:Nat):Obj:={cls:=.type "set_iterator",dict:=none,data:=.fields #[first,rawInt i,.ref a,rawInt n,rawInt ep],slots:= #[]}
section
variable{prog:Program}{w:World}{A:Around}{E:Value->Shared->Prop}{s:Shared}{a I:Addr}{es:Array (Int×Value)}{ep:Nat}{t:SetTable}
def adL(w:World)(a:Addr)(es:Array (Int×Value))(ep:Nat):List Value:=if w.params.followText "set-order" then (pickOrder (w.params.setOrder a ep) es).toList.map (·.2) else es.toList.map (·.2)
def aa2(w:World)(t:SetTable)(i:Nat):Nat:=if w.params.followText "set-order" then 0 else match i with
 |0=>0
 |i+1=>t.place.getD i 0+1
theorem axH:aa2 w t 0=0:=by unfold aa2;split<;>rfl
theorem avL{i:Nat}(bt:w.params.followText "set-order"=false):aa2 w t (i+1)=t.place.getD i 0+1:=by unfold aa2;rw[bt,if_neg (by simp)]
theorem ord_perm:(adL w a es ep).Perm (es.toList.map (·.2)):=by
 unfold adL
 split
 ·exact (as1 _ _).map _
 ·exact List.Perm.refl _
theorem amR:(adL w a es ep).length=es.size:=by rw[ord_perm.length_eq,List.length_map,Array.length_toList]
theorem afO{Q:Bool->Shared->Prop}(h:Q (w.params.followText "set-order") s):wpAny (model prog w) A setsByText Q E s:=by
 unfold setsByText
 exact wpAny_bind (wpAny_askSetting (wpAny_pure h))
theorem auX{Q:Option (Value×Nat)->Shared->Prop}{i:Nat}(hS:s.heap.get? a=some (aaS es ep t))(X:SetE prog w es t)(nd:w.params.followText "set-order"=true∨(!t.plain&&decide (es.size>1))=false)(hi:i<=es.size)
  (h:Q ((adL w a es ep)[i]?.map fun v=>(v,aa2 w t (i+1))) s):wpAny (model prog w) A (setNext a (aa2 w t i) i ep) Q E s:=by
 unfold setNext
 refine wpAny_bind (wpAny_setState_of hS rfl X.fit ?_)
 dsimp only
 refine wpAny_bind (afO ?_)
 cases bt:w.params.followText "set-order" with
 |true=>
  rw[if_pos rfl,if_neg (by simp)]
  refine wpAny_bind ?_
  unfold setWalk
  refine wpAny_bind (wpAny_setState_of hS rfl X.fit ?_)
  dsimp only
  refine wpAny_bind (afO ?_)
  rw[bt,if_pos rfl]
  refine wpAny_bind (wpAny_askSetting (wpAny_pure (wpAny_pure ?_)))
  have e:adL w a es ep=(pickOrder (w.params.setOrder a ep) es).toList.map (·.2):=by unfold adL;rw[bt,if_pos rfl]
  rw[e,List.getElem?_map,Array.getElem?_toList,Option.map_map] at h
  have e2:aa2 w t (i+1)=aa2 w t i:=by unfold aa2;rw[bt,if_pos rfl,if_pos rfl]
  rw[e2] at h
  exact h
 |false=>
  have nd':(!t.plain&&decide (es.size>1))=false:=nd.resolve_left (by rw[bt];simp)
  have led:t.led=true:=by rw[X.tab.led];unfold aoT;rw[bt];rfl
  have fit:t.place.size=es.size:=by
   have:=X.fit
   simp only[SetTable.fits,Bool.and_eq_true,beq_iff_eq] at this
   exact this.1
  rw[if_neg (by simp)]
  change wpAny _ _ (if (!t.plain&&decide (es.size>1))=true then _ else _) _ _ _
  rw[if_neg (by rw[nd'];simp)]
  refine wpAny_bind ?_
  change wpAny _ _ (if (!t.led&& !es.isEmpty)=true then _ else _) _ _ _
  rw[if_neg (by rw[led];simp)]
  refine wpAny_pure (wpAny_pure ?_)
  have e:adL w a es ep=es.toList.map (·.2):=by unfold adL;rw[bt,if_neg (by simp)]
  have cut:SetTable.below t.place (aa2 w t i)=i:=by
   obtain⟨c1,c2,c3⟩:=ag4 X.tab.rise (aa2 w t i)
   have at':∀k,k<t.place.size->t.place[k]? =some (t.place.getD k 0):=fun k hk=>by rw[Array.getD_eq_getD_getElem?,Array.getElem?_eq_getElem hk];rfl
   cases i with
   |zero=>
    rcases Nat.eq_zero_or_pos (SetTable.below t.place (aa2 w t 0)) with z | z
    ·exact z
    ·have:=c2 0 _ z (at' 0 (by omega))
     rw[axH] at this
     exact absurd this (Nat.not_lt_zero _)
   |succ i=>
    have e0:aa2 w t (i+1)=t.place.getD i 0+1:=avL bt
    have hi':i<t.place.size:=by omega
    have l1:¬SetTable.below t.place (aa2 w t (i+1))<=i:=fun z=>by
     have:=c3 i _ z (at' i hi')
     omega
    have l2:¬i+1<SetTable.below t.place (aa2 w t (i+1)):=fun z=>by
     have h1:i+1<t.place.size:=by omega
     have:=c2 (i+1) _ z (at' (i+1) h1)
     have:=X.tab.rise.lt (at' i hi') (at' (i+1) h1) (Nat.lt_succ_self i)
     omega
    omega
  rw[cut]
  rw[e,List.getElem?_map,Array.getElem?_toList,Option.map_map] at h
  by_cases c:i<es.size
  ·rw[Array.getElem?_eq_getElem c,Array.getElem?_eq_getElem (show i<t.place.size by omega)]
   rw[Array.getElem?_eq_getElem c] at h
   have e2:aa2 w t (i+1)=t.place[i]'(by omega)+1:=by
    rw[avL bt,Array.getD_eq_getD_getElem?,Array.getElem?_eq_getElem (show i<t.place.size by omega)]
    rfl
   rw[e2] at h
   exact h
  ·rw[Array.getElem?_eq_none (by omega),Array.getElem?_eq_none (by omega)]
   rw[Array.getElem?_eq_none (by omega)] at h
   exact h
abbrev aLT:Obj:={cls:=.type "tuple",data:=.seq #[]}
abbrev aLZ(a:Addr):Obj:={cls:=.type "StopIteration",data:=.fields (#[Value.ref a,.none,.none,.none,.bool false,.none]++ownMembersOf (.type "StopIteration") [])}
theorem alW{β:Type}{Q:β->Shared->Prop}(hh:A.handled=none)(h:E (.ref (s.heap.push aLT).objs.size) {s with heap:=(s.heap.push aLT).push (aLZ s.heap.objs.size)}):
  wpAny (model prog w) A (do raiseNew (←newExc (.type "StopIteration") []):Sem β) Q E s:=by
 refine wpAny_bind ?_
 simp only[newExc,newTuple]
 refine wpAny_bind (wpAny_newObj_type (wpAny_bind (m:=firstArgMember _ _) (wpAny_of_eq (a:=Value.none) (by simp only[firstArgMember];rfl) (wpAny_newObj_type ?_ (by size_fits)))) (by size_fits))
 unfold raiseNew
 refine wpAny_bind (wpAny_handled ?_)
 rw[hh]
 exact wpAny_bind (wpAny_pure (wpAny_throw h))
theorem acD{f:Value}{i n ep:Nat}(h:s.heap.get? I=some (sit f i a n ep)):s.TypeIs (.ref I) "set_iterator":=⟨_,h,rfl⟩
theorem ao3{i:Nat}{Q:Option Value->Shared->Prop}(hh:A.handled=none)(ne:a≠I)(hI:s.heap.get? I=some (sit (rawInt (aa2 w t i)) i a es.size ep))(hS:s.heap.get? a=some (aaS es ep t))(X:SetE prog w es t)
  (nd:w.params.followText "set-order"=true∨(!t.plain&&decide (es.size>1))=false) (hi:i<=es.size)
  (k:∀v h',(adL w a es ep)[i]? =some v->h'.get? I=some (sit (rawInt (aa2 w t (i+1))) (i+1) a es.size ep)->(∀b o,b≠I->s.heap.get? b=some o->h'.get? b=some o)->Q (some v) {s with heap:=h'})
  (k0:(adL w a es ep)[i]? =none->∀h',(∀b o,b≠I->s.heap.get? b=some o->h'.get? b=some o)->Q none {s with heap:=h'}):wpAny (model prog w) A (pyNext (.ref I)) Q E s:=by
 unfold pyNext
 refine wpAny_bind (wpAny_attempt (wpAny_callSpecial?_slot (name:=Str.ofString "__next__") (acD hI) slot_set_itn (wpAny_call_entry slot_set_itn (acD hI) afB ?_ (afW _))))
 unfold Builtin.«set_iterator.__next__»
 refine wpAny_bind (m:=slotArgs _ _ _) (wpAny_pure ?_)
 refine wpAny_bind (wpAny_fieldsOf hI rfl ?_)
 simp only[rawInt]
 unfold setEntries
 refine wpAny_bind (wpAny_bind (wpAny_setState_of hS rfl X.fit (wpAny_pure ?_)))
 rw[if_neg (by simp)]
 simp only[Int.toNat_natCast]
 refine wpAny_bind (auX hS X nd hi ?_)
 cases ho:(adL w a es ep)[i]? with
 |some v=>
  dsimp only[Option.map]
  refine wpAny_bind (wpAny_setField hI rfl (show 0<5 by decide) ?_)
  have h1:=Heap.get?_update_self (Obj.mapFields (·.setIfInBounds 0 (Value.int (aa2 w t (i+1)) 0))) hI rfl
  refine wpAny_bind (wpAny_setField h1 rfl (show 1<5 by decide) ?_)
  have h2:=Heap.get?_update_self (Obj.mapFields (·.setIfInBounds 1 (Value.int ((i:Int)+1) 0))) h1 rfl
  refine wpAny_pure ⟨v,rfl,wpAny_pure (k v _ ho ?_ fun b o nb e=>?_)⟩
  ·rw[h2]
   show some _=some _
   congr 1
  ·rw[Heap.get?_update_other _ _ (Ne.symm nb),Heap.get?_update_other _ _ (Ne.symm nb)]
   exact e
 |none=>
  dsimp only[Option.map]
  refine wpAny_bind (wpAny_setField hI rfl (show 2<5 by decide) (alW hh ?_))
  refine wpAny_bind (wpAny_isInstance (T:="StopIteration") (b:=true) ⟨_,Heap.get?_push_size _ rfl,rfl⟩ isSubtype_stop (wpAny_pure (k0 ho _ fun b o nb e=>?_)))
  refine Heap.get?_push_of_some _ (Heap.get?_push_of_some _ ?_)
  rw[Heap.get?_update_other _ _ (Ne.symm nb)]
  exact e
theorem alP{i:Nat}{T:Addr}{ys:List Nat}{Q:Option Value->Shared->Prop}(hh:A.handled=none)(hI:s.heap.get? I=some (sit (.ref T) i a es.size ep))(hT:s.heap.get? T=some {cls:=.type "tuple",data:=.seq (ys.map fun (y:Nat)=>rawInt y).toArray})(hS:s.heap.get? a=some (aaS es ep t))(X:SetE prog w es t)
  (hy:∀y∈ys,y<es.size)
  (k:∀y v h',ys[i]? =some y->(es.toList.map (·.2))[y]? =some v->h'.get? I=some (sit (.ref T) (i+1) a es.size ep)->(∀b o,b≠I->s.heap.get? b=some o->h'.get? b=some o)->Q (some v) {s with heap:=h'})
  (k0:ys[i]? =none->∀h',(∀b o,b≠I->s.heap.get? b=some o->h'.get? b=some o)->Q none {s with heap:=h'}):wpAny (model prog w) A (pyNext (.ref I)) Q E s:=by
 unfold pyNext
 refine wpAny_bind (wpAny_attempt (wpAny_callSpecial?_slot (name:=Str.ofString "__next__") (acD hI) slot_set_itn (wpAny_call_entry slot_set_itn (acD hI) afB ?_ (afW _))))
 unfold Builtin.«set_iterator.__next__»
 refine wpAny_bind (m:=slotArgs _ _ _) (wpAny_pure (wpAny_bind (wpAny_fieldsOf hI rfl ?_)))
 simp only[rawInt]
 unfold setEntries
 refine wpAny_bind (wpAny_bind (wpAny_setState_of hS rfl X.fit (wpAny_pure ?_)))
 rw[if_neg (by simp)]
 refine wpAny_bind (wpAny_seqItems hT rfl ?_)
 have eg:((ys.map fun (y:Nat)=>rawInt y).toArray)[(i:Int).toNat]? =(ys[i]?).map fun (y:Nat)=>rawInt y:=by
  rw[Int.toNat_natCast,List.getElem?_toArray,List.getElem?_map]
 dsimp only
 rw[eg]
 cases ho:ys[i]? with
 |some y=>
  have hlt:=hy y (List.mem_of_getElem? ho)
  have ev:(es.toList.map (·.2))[y]? =some es[y].2:=by rw[List.getElem?_map,Array.getElem?_toList,Array.getElem?_eq_getElem hlt];rfl
  dsimp only[Option.map,rawInt]
  unfold setNextDrawn
  refine wpAny_bind (wpAny_bind (wpAny_setState_of hS rfl X.fit ?_))
  dsimp only
  rw[if_neg (by simp)]
  simp only[Int.toNat_natCast]
  rw[Array.getElem?_eq_getElem hlt]
  refine wpAny_pure (wpAny_bind (wpAny_setField hI rfl (show 1<5 by decide) ?_))
  have h2:=Heap.get?_update_self (Obj.mapFields (·.setIfInBounds 1 (Value.int ((i:Int)+1) 0))) hI rfl
  refine wpAny_pure ⟨es[y].2,rfl,wpAny_pure (k y _ _ ho ev ?_ fun b o nb e=>?_)⟩
  ·rw[h2]
   show some _=some _
   congr 1
  ·rw[Heap.get?_update_other _ _ (Ne.symm nb)]
   exact e
 |none=>
  dsimp only[Option.map]
  refine wpAny_bind (wpAny_setField hI rfl (show 0<5 by decide) ?_)
  have h1:=Heap.get?_update_self (Obj.mapFields (·.setIfInBounds 0 (Value.int 0 0))) hI rfl
  refine wpAny_bind (wpAny_setField h1 rfl (show 2<5 by decide) (alW hh ?_))
  refine wpAny_bind (wpAny_isInstance (T:="StopIteration") (b:=true) ⟨_,Heap.get?_push_size _ rfl,rfl⟩ isSubtype_stop (wpAny_pure (k0 ho _ fun b o nb e=>?_)))
  refine Heap.get?_push_of_some _ (Heap.get?_push_of_some _ ?_)
  rw[Heap.get?_update_other _ _ (Ne.symm nb),Heap.get?_update_other _ _ (Ne.symm nb)]
  exact e
theorem afU:Slot "set_iterator" "__iter__" "set_iterator.__iter__":=
 .of (owner:="set_iterator") (n:="__iter__") (by rw[typeLookup_type,builtinLookup_eq_fast];kernel_rfl) (by decide +kernel) (by decide +kernel) (by decide +kernel)
  (by first | exact .inl (by decide +kernel) | exact .inr (by decide +kernel)) (by rw[isSubtype_type];kernel_rfl)
theorem akQ:entryFor table "set_iterator.__iter__"=some Builtin.«dict_keyiterator.__iter__»:=entryFor_alias (id':="dict_keyiterator.__iter__") (by decide +kernel) (by decide +kernel) (by decide +kernel) (by kernel_rfl)
theorem anB(a:Value):argsOk "set_iterator.__iter__" ⟨[a],[]⟩:=by unfold argsOk;kernel_rfl
theorem aoQ{f:Value}{i n:Nat}{Q:Value->Shared->Prop}(hI:s.heap.get? I=some (sit f i a n ep))(h:Q (.ref I) s):wpAny (model prog w) A (pyIter (.ref I)) Q E s:=by
 refine wpAny_pyIter_slot (acD hI) afU (wpAny_call_entry afU (acD hI) akQ ?_ (anB _))
 unfold Builtin.«dict_keyiterator.__iter__»
 exact wpAny_bind (m:=slotArgs _ _ _) (wpAny_pure (wpAny_pure ⟨_,rfl,"set_iterator",_,acD hI,slot_set_itn.lookup,h⟩))
theorem as4(hh:A.handled=none)(ne:a≠I)(X:SetE prog w es t)(nd:w.params.followText "set-order"=true∨(!t.plain&&decide (es.size>1))=false):
  Walks prog w A I [I,a] [I] es.size (fun i v=>(adL w a es ep)[i]? =some v) (fun i h=>i<=es.size/\h.get? I=some (sit (rawInt (aa2 w t i)) i a es.size ep)/\h.get? a=some (aaS es ep t)) where
 sub:=fun b hb=>by simp at hb;simp[hb]
 frame:=fun i h h' st k=>⟨st.1,k I (by simp) _ st.2.1,k a (by simp) _ st.2.2⟩
 item:=fun i s Q E hi st k=>ao3 hh ne st.2.1 st.2.2 X nd st.1 (fun v h' ho hI' kp=>k v h' s.toks ho ⟨hi,hI',kp a _ ne st.2.2⟩ fun b o nb e=>kp b o (fun z=>nb (by simp[z])) e) fun ho=>by
  have:=List.getElem?_eq_none_iff.mp ho
  have hl:=amR (w:=w) (a:=a) (es:=es) (ep:=ep)
  omega
 done:=fun s Q E st k=>ao3 hh ne st.2.1 st.2.2 X nd st.1 (fun v h' ho=>by
  obtain⟨z,_⟩:=List.getElem?_eq_some_iff.mp ho
  have hl:=amR (w:=w) (a:=a) (es:=es) (ep:=ep)
  omega) fun _ h' kp=>k h' s.toks fun b o nb e=>kp b o (fun z=>nb (by simp[z])) e
 self:=fun i s Q E st k=>aoQ st.2.1 k
theorem arB{T:Addr}{ys:List Nat}(hh:A.handled=none)(ne:a≠I)(nT:T≠I)(X:SetE prog w es t)(hp:ys.Perm (List.range es.size)):
  Walks prog w A I [I,a,T] [I] es.size (fun i v=>∃y,ys[i]? =some y/\(es.toList.map (·.2))[y]? =some v) (fun i h=>h.get? I=some (sit (.ref T) i a es.size ep)/\h.get? a=some (aaS es ep t)/\h.get? T=some {cls:=.type "tuple",data:=.seq (ys.map fun (y:Nat)=>rawInt y).toArray}) where
 sub:=fun b hb=>by simp at hb;simp[hb]
 frame:=fun i h h' st k=>⟨k I (by simp) _ st.1,k a (by simp) _ st.2.1,k T (by simp) _ st.2.2⟩
 item:=fun i s Q E hi st k=>alP hh st.1 st.2.2 st.2.1 X (fun y hy=>by simpa using hp.mem_iff.mp hy) (fun y v h' h1 h2 hI' kp=>k v h' s.toks ⟨y,h1,h2⟩ ⟨hI',kp a _ ne st.2.1,kp T _ nT st.2.2⟩ fun b o nb e=>kp b o (fun z=>nb (by simp[z])) e) fun ho=>by
  have:=List.getElem?_eq_none_iff.mp ho
  have hl:=hp.length_eq
  rw[List.length_range] at hl
  omega
 done:=fun s Q E st k=>alP hh st.1 st.2.2 st.2.1 X (fun y hy=>by simpa using hp.mem_iff.mp hy) (fun y v h' ho=>by
  obtain⟨z,_⟩:=List.getElem?_eq_some_iff.mp ho
  have hl:=hp.length_eq
  rw[List.length_range] at hl
  omega) fun _ h' kp=>k h' s.toks fun b o nb e=>kp b o (fun z=>nb (by simp[z])) e
 self:=fun i s Q E st k=>aoQ st.1 k
theorem auH{Q:Value->Shared->Prop}(hS:s.heap.get? a=some (aaS es ep t))(X:SetE prog w es t)
  (k:(w.params.followText "set-order"=true∨(!t.plain&&decide (es.size>1))=false)->Q (.ref s.heap.objs.size) {s with heap:=s.heap.push (sit (rawInt 0) 0 a es.size ep)})
  (kD:∀(ys:List Nat) (d:Drawn),ys.Perm (List.range es.size)->Q (.ref (s.heap.objs.size+1)) {s with heap:=(s.heap.push {cls:=.type "tuple",data:=.seq (ys.map fun (y:Nat)=>rawInt y).toArray}).push (sit (.ref s.heap.objs.size) 0 a es.size ep),drawn:=d}):
  wpAny (model prog w) A (pyIter (.ref a)) Q E s:=by
 have hT:s.TypeIs (.ref a) "set":=⟨_,hS,rfl⟩
 refine wpAny_pyIter_slot hT F.slot_set_iter (wpAny_call_entry F.slot_set_iter hT aj4 ?_ (F.args_set_iter_1 _))
 unfold Builtin.«frozenset.__iter__» Builtin.Frozenset.slot0
 refine wpAny_bind (wpAny_bind (m:=slotArgs _ _ _) (wpAny_pure (wpAny_pure ?_)))
 unfold Builtin.Frozenset.sizeOf setEntries
 refine wpAny_bind (wpAny_bind (wpAny_bind (wpAny_setState_of hS rfl X.fit (wpAny_pure (wpAny_pure ?_)))))
 unfold setDrawn
 refine wpAny_bind (wpAny_bind (wpAny_setState_of hS rfl X.fit ?_))
 refine wpAny_bind (afO (wpAny_pure ?_))
 have sl:=fits_of_scanBound X.sz
 dsimp only
 change wpAny _ _ (if (!w.params.followText "set-order"&&(!t.plain&&decide (es.size>1)))=true then _ else _) _ _ _
 by_cases c:(!w.params.followText "set-order"&&(!t.plain&&decide (es.size>1)))=true
 ·rw[if_pos c]
  refine wpAny_bind (alV es.size (List.range es.size) s _ List.length_range fun ys d hp=>?_)
  unfold newTuple
  refine wpAny_bind (wpAny_newObj_type ?_ (by show (ys.map fun (y:Nat)=>rawInt y).toArray.size<=_;rw[List.size_toArray,List.length_map,hp.length_eq,List.length_range];omega))
  refine wpAny_bind (wpAny_setEpoch_of (Heap.get?_push_of_some _ hS) rfl X.fit ?_)
  unfold newFields
  refine wpAny_bind (wpAny_newObj_type (wpAny_pure ⟨_,rfl,"set_iterator",_,⟨_,Heap.get?_push_size _ rfl,rfl⟩,slot_set_itn.lookup,?_⟩))
  have:=kD ys d hp
  rw[Heap.size_push]
  exact this
 ·rw[if_neg c]
  refine wpAny_bind (wpAny_pure (wpAny_bind (wpAny_setEpoch_of hS rfl X.fit ?_)))
  unfold newFields
  refine wpAny_bind (wpAny_newObj_type (wpAny_pure ⟨_,rfl,"set_iterator",_,⟨_,Heap.get?_push_size _ rfl,rfl⟩,slot_set_itn.lookup,k ?_⟩))
  cases q:w.params.followText "set-order" with
  |true=>exact .inl rfl
  |false=>
   refine .inr ?_
   rw[q] at c
   simpa using c
theorem apS{Q:Bool->Shared->Prop}(hT:s.TypeIs (.ref a) "set")(h:Q false s):wpAny (model prog w) A (Builtin.List.listLengthHint (.ref a)) Q E s:=by
 unfold Builtin.List.listLengthHint
 refine wpAny_bind (wpAny_specialOf hT F.slot_set_len.lookup ?_)
 generalize hid:("set.__len__":String)=id0
 wp_delta
 have parts:splitId id0=some ("set","__len__"):=by subst hid;decide +kernel
 rw[parts]
 subst hid
 refine wpAny_bind (wpAny_isInstance (T:="set") (b:=true) hT (by rw[isSubtype_type];kernel_rfl) ?_)
 refine wpAny_ite_split (fun z=>absurd z (by decide)) (fun _=>wpAny_ite_split (fun _=>wpAny_bind (wpAny_typeOf hT (wpAny_pure h))) fun z=>absurd (by decide +kernel) z)
end
section
variable{prog:Program}{w:World}{A:Around}{E:Value->Shared->Prop}{s:Shared}{a I:Addr}{es:Array (Int×Value)}{ep:Nat}{t:SetTable}
theorem an3{xs:List Value}{acc:Array Value}{n:Nat}(hn:xs.length=n)(its:ItemsOf (fun i v=>xs[i]? =some v) acc n):acc.toList=xs:=by
 refine List.ext_getElem? fun i=>?_
 rw[Array.getElem?_toList]
 by_cases c:i<acc.size
 ·have e:=Array.getElem?_eq_getElem c
  rw[e,its.2 i _ e]
 ·rw[Array.getElem?_eq_none (by omega),List.getElem?_eq_none (by have:=its.1;omega)]
theorem aqC{R:Result->Shared->Prop}{S:Addr}(hh:A.handled=none)(hS:s.heap.get? a=some (aaS es ep t))(X:SetE prog w es t)(ne:S≠a)(hL:s.heap.get? S=some {cls:=.type "list",data:=.seq #[]})
  (k:∀(s':Shared) (acc:Array Value) (c:Nat),acc.toList.Perm (es.toList.map (·.2))->(∀b o,b≠S->s.heap.get? b=some o->s'.heap.get? b=some o)->s'.gens=s.gens->s'.os=s.os->s'.heap.get? S=some {cls:=.type "list",data:=.seq acc c}->R (.ok (.ret (.ref S))) s'):
  wpAny (model prog w) A.in1 (Builtin.List.listExtendWith (.ref S) (.ref a) (.ref S)) (fun fin s'=>match fin with | .done f=>R (.ok f) s' | .again c'=>c'.quiet=true/\codeAny (model prog w) A c' R s') (fun e s'=>R (.error e) s') s:=by
 have sl:=fits_of_scanBound X.sz
 have la:a<s.heap.objs.size:=Heap.lt_size hS
 have lS:S<s.heap.objs.size:=Heap.lt_size hL
 have apart:Builtin.List.listSameRef (.ref S) (.ref a)=false:=by simp[Builtin.List.listSameRef,ne]
 unfold Builtin.List.listExtendWith
 refine wpAny_bind (wpAny_typeOf (T:="set") ⟨_,hS,rfl⟩ ?_)
 rw[if_neg (by rw[apart];decide)]
 refine wpAny_bind (auH hS X (fun nd=>?_) fun ys d hp=>?_)
 ·have HS:(s.heap.push (sit (rawInt 0) 0 a es.size ep)).get? a=some (aaS es ep t):=Heap.get?_push_of_some _ hS
  have LS:(s.heap.push (sit (rawInt 0) 0 a es.size ep)).get? S=some {cls:=.type "list",data:=.seq #[]}:=Heap.get?_push_of_some _ hL
  have W:=as4 (A:=A.in1) (ep:=ep) (I:=s.heap.objs.size) hh (Nat.ne_of_lt la) X nd
  have ST:0<=es.size/\(s.heap.push (sit (rawInt 0) 0 a es.size ep)).get? s.heap.objs.size=some (sit (rawInt (aa2 w t 0)) 0 a es.size ep)/\(s.heap.push (sit (rawInt 0) 0 a es.size ep)).get? a=some (aaS es ep t):=⟨Nat.zero_le _,by rw[axH];exact Heap.get?_push_size s.heap (o:=sit (rawInt 0) 0 a es.size ep) rfl,HS⟩
  refine wpAny_bind (wpAny_holding (apS ⟨_,HS,rfl⟩ ?_))
  rw[if_pos (by decide)]
  refine wpAny_bind (wpAny_rule (wpAny_bind (show wpAny _ _ (updateSeq S (fun l=>l.push Value.none) >>=fun _=>updateSeq S fun l=>l.pop) _ _ _ from wpAny_bind (wpAny_updateSeq LS rfl ?_))))
  have S1:=Heap.get?_update_self (Obj.mapSeq (·.push Value.none)) LS rfl
  refine wpAny_updateSeq (hz:=by seq_fits) S1 rfl ?_
  have S2:=Heap.get?_update_self (Obj.mapSeq (·.pop)) S1 rfl
  have oth:∀b o,b≠S->(s.heap.push (sit (rawInt 0) 0 a es.size ep)).get? b=some o->(((s.heap.push (sit (rawInt 0) 0 a es.size ep)).update S (Obj.mapSeq (·.push Value.none))).update S (Obj.mapSeq (·.pop))).get? b=some o:=fun b o nb e=>by
   rw[Heap.get?_update_other _ _ (Ne.symm nb),Heap.get?_update_other _ _ (Ne.symm nb)]
   exact e
  have out:S∉[s.heap.objs.size,a]:=by
   simp only[List.mem_cons,List.not_mem_nil,or_false,not_or]
   exact⟨Nat.ne_of_lt lS,ne⟩
  refine wpAny_pure ⟨plainId_quiet PySem.F.plain_extend_loop _,codeAny_extend_loopS W.toS sl S out _ es.size 0 _ #[] _ rfl (Nat.zero_le _) (W.frame 0 _ _ ST fun b hb o e=>oth b o (fun z=>out (z▸hb)) e) S2 (ItemsOf.nil _) fun s' acc c mv S3 its=>?_⟩
  exact k s' acc c (by rw[an3 amR its];exact ord_perm) (fun b ob nb e=>mv.heap b ob (by simp[nb,Nat.ne_of_lt (Heap.lt_size e)]) (oth b ob nb (Heap.get?_push_of_some _ e))) mv.gens mv.os S3
 ·have nT:s.heap.objs.size≠s.heap.objs.size+1:=Nat.ne_of_lt (Nat.lt_succ_self _)
  have HS:((s.heap.push ({cls:=.type "tuple",data:=.seq (ys.map fun (y:Nat)=>rawInt y).toArray}:Obj)).push (sit (.ref s.heap.objs.size) 0 a es.size ep)).get? a=some (aaS es ep t):=Heap.get?_push_of_some _ (Heap.get?_push_of_some _ hS)
  have LS:((s.heap.push ({cls:=.type "tuple",data:=.seq (ys.map fun (y:Nat)=>rawInt y).toArray}:Obj)).push (sit (.ref s.heap.objs.size) 0 a es.size ep)).get? S=some {cls:=.type "list",data:=.seq #[]}:=Heap.get?_push_of_some _ (Heap.get?_push_of_some _ hL)
  have W:=arB (A:=A.in1) (ep:=ep) (I:=s.heap.objs.size+1) (T:=s.heap.objs.size) hh (Nat.ne_of_lt (Nat.lt_succ_of_lt la)) nT X hp
  have eI:((s.heap.push ({cls:=.type "tuple",data:=.seq (ys.map fun (y:Nat)=>rawInt y).toArray}:Obj)).push (sit (.ref s.heap.objs.size) 0 a es.size ep)).get? (s.heap.objs.size+1)=some (sit (.ref s.heap.objs.size) 0 a es.size ep):=by
   have:=Heap.get?_push_size (s.heap.push ({cls:=.type "tuple",data:=.seq (ys.map fun (y:Nat)=>rawInt y).toArray}:Obj)) (o:=sit (.ref s.heap.objs.size) 0 a es.size ep) rfl
   rw[Heap.size_push] at this
   exact this
  have ST:((s.heap.push ({cls:=.type "tuple",data:=.seq (ys.map fun (y:Nat)=>rawInt y).toArray}:Obj)).push (sit (.ref s.heap.objs.size) 0 a es.size ep)).get? (s.heap.objs.size+1)=some (sit (.ref s.heap.objs.size) 0 a es.size ep)/\((s.heap.push ({cls:=.type "tuple",data:=.seq (ys.map fun (y:Nat)=>rawInt y).toArray}:Obj)).push (sit (.ref s.heap.objs.size) 0 a es.size ep)).get? a=some (aaS es ep t)/\((s.heap.push ({cls:=.type "tuple",data:=.seq (ys.map fun (y:Nat)=>rawInt y).toArray}:Obj)).push (sit (.ref s.heap.objs.size) 0 a es.size ep)).get? s.heap.objs.size=some {cls:=.type "tuple",data:=.seq (ys.map fun (y:Nat)=>rawInt y).toArray}:=⟨eI,HS,Heap.get?_push_of_some _ (Heap.get?_push_size _ rfl)⟩
  refine wpAny_bind (wpAny_holding (apS ⟨_,HS,rfl⟩ ?_))
  rw[if_pos (by decide)]
  refine wpAny_bind (wpAny_rule (wpAny_bind (show wpAny _ _ (updateSeq S (fun l=>l.push Value.none) >>=fun _=>updateSeq S fun l=>l.pop) _ _ _ from wpAny_bind (wpAny_updateSeq LS rfl ?_))))
  have S1:=Heap.get?_update_self (Obj.mapSeq (·.push Value.none)) LS rfl
  refine wpAny_updateSeq (hz:=by seq_fits) S1 rfl ?_
  have S2:=Heap.get?_update_self (Obj.mapSeq (·.pop)) S1 rfl
  have oth:∀b o,b≠S->((s.heap.push ({cls:=.type "tuple",data:=.seq (ys.map fun (y:Nat)=>rawInt y).toArray}:Obj)).push (sit (.ref s.heap.objs.size) 0 a es.size ep)).get? b=some o->((((s.heap.push ({cls:=.type "tuple",data:=.seq (ys.map fun (y:Nat)=>rawInt y).toArray}:Obj)).push (sit (.ref s.heap.objs.size) 0 a es.size ep)).update S (Obj.mapSeq (·.push Value.none))).update S (Obj.mapSeq (·.pop))).get? b=some o:=fun b o nb e=>by
   rw[Heap.get?_update_other _ _ (Ne.symm nb),Heap.get?_update_other _ _ (Ne.symm nb)]
   exact e
  have out:S∉[s.heap.objs.size+1,a,s.heap.objs.size]:=by
   simp only[List.mem_cons,List.not_mem_nil,or_false,not_or]
   exact⟨Nat.ne_of_lt (Nat.lt_succ_of_lt lS),ne,Nat.ne_of_lt lS⟩
  refine wpAny_pure ⟨plainId_quiet PySem.F.plain_extend_loop _,codeAny_extend_loopS W.toS sl S out _ es.size 0 _ #[] _ rfl (Nat.zero_le _) (W.frame 0 _ _ ST fun b hb o e=>oth b o (fun z=>out (z▸hb)) e) S2 (ItemsOf.nil _) fun s' acc c mv S3 its=>?_⟩
  have el:acc.toList=ys.map fun y=>((es.toList.map (·.2))[y]?).getD .none:=by
   refine an3 (by rw[List.length_map,hp.length_eq,List.length_range]) ⟨its.1,fun i v hv=>?_⟩
   obtain⟨y,h1,h2⟩:=its.2 i v hv
   rw[List.getElem?_map,h1]
   show some (((es.toList.map (·.2))[y]?).getD .none)=_
   rw[h2]
   rfl
  have er:(List.range es.size).map (fun y=>((es.toList.map (·.2))[y]?).getD Value.none)=es.toList.map (·.2):=by
   refine List.ext_getElem? fun i=>?_
   rw[List.getElem?_map]
   by_cases c:i<es.size
   ·rw[List.getElem?_range c]
    show some (((es.toList.map (·.2))[i]?).getD .none)=(es.toList.map (·.2))[i]?
    rw[List.getElem?_eq_getElem (by rw[List.length_map,Array.length_toList];exact c)]
    rfl
   ·rw[List.getElem?_eq_none (by rw[List.length_range];omega),List.getElem?_eq_none (by rw[List.length_map,Array.length_toList];omega)]
    rfl
  refine k s' acc c (by rw[el];exact (hp.map _).trans (List.Perm.of_eq er)) (fun b ob nb e=>mv.heap b ob ?_ (oth b ob nb (Heap.get?_push_of_some _ (Heap.get?_push_of_some _ e)))) mv.gens mv.os S3
  simp only[List.mem_cons,List.not_mem_nil,or_false,not_or]
  exact⟨nb,Nat.ne_of_lt (Nat.lt_succ_of_lt (Heap.lt_size e))⟩
theorem apW{Q:List Value->Shared->Prop}(hh:A.handled=none)(hS:s.heap.get? a=some (aaS es ep t))(X:SetE prog w es t)
  (k:∀(s':Shared) (vs:List Value),vs.Perm (es.toList.map (·.2))->(∀b o,s.heap.get? b=some o->s'.heap.get? b=some o)->s.heap.objs.size<s'.heap.objs.size->s'.gens=s.gens->s'.os=s.os->Q vs s'):wpAny (model prog w) A (collect (.ref a)) Q E s:=by
 let nl:Obj:={cls:=.type "list",data:=.seq ([]:List Value).toArray}
 have S1:(s.heap.push nl).get? s.heap.objs.size=some nl:=Heap.get?_push_size _ rfl
 unfold collect
 refine wpAny_bind (wpAny_runValue (codeAny_builtin F.entry_proto_collect ?_))
 rw[Around.under_plainId F.plain_proto_collect _]
 refine wpAny_bind (wpAny_newObj_type (wpAny_pure ⟨plainId_quiet F.plain_list_iadd _,codeAny_builtin F.entry_list_iadd ?_⟩))
 rw[Around.under_plainId F.plain_list_iadd _]
 have key:=aqC (A:=A) (s:={s with heap:=s.heap.push nl}) (S:=s.heap.objs.size) (R:=fun q s'=>∃acc c,q=.ok (.ret (.ref s.heap.objs.size))/\acc.toList.Perm (es.toList.map (·.2))/\(∀b o,s.heap.get? b=some o->s'.heap.get? b=some o)/\s'.gens=s.gens/\s'.os=s.os/\s'.heap.get? s.heap.objs.size=some {cls:=.type "list",data:=.seq acc c})
  hh (Heap.get?_push_of_some _ hS) X (Nat.ne_of_gt (Heap.lt_size hS)) S1 fun s' acc c p kp g o e=>⟨acc,c,rfl,p,fun b ob q=>kp b ob (Nat.ne_of_lt (Heap.lt_size q)) (Heap.get?_push_of_some _ q),g,o,e⟩
 have fin:∀s' acc c,acc.toList.Perm (es.toList.map (·.2))->(∀b o,s.heap.get? b=some o->s'.heap.get? b=some o)->s'.gens=s.gens->s'.os=s.os->s'.heap.get? s.heap.objs.size=some {cls:=.type "list",data:=.seq acc c}->
   wpAny (model prog w) A (do let o ←load s.heap.objs.size;match o.data with | .seq xs _=>pure xs.toList | _=>unsupported "internal:collect") Q E s':=fun s' acc c p kp g o e=>wpAny_bind (wpAny_load e (wpAny_pure (k s' acc.toList p kp (Heap.lt_size e) g o)))
 refine wpAny_mono key (fun f s' x=>?_) fun e s' x=>?_
 ·cases f with
  |done f=>
   obtain⟨acc,c,e,p,kp,g,o,q⟩:=x
   cases e
   exact fin s' acc c p kp g o q
  |again c1=>
   refine⟨x.1,codeAny_mono x.2 fun r s2 y=>?_⟩
   obtain⟨acc,c,rfl,p,kp,g,o,q⟩:=y
   exact fin s2 acc c p kp g o q
 ·obtain⟨_,_,e',_⟩:=x
  cases e'
theorem aqL{Q:Value->Shared->Prop}(hh:A.handled=none)(hS:s.heap.get? a=some (aaS es ep t))(X:SetE prog w es t)(h64:es.size<64)
  (k:∀(s':Shared) (D:Addr) (vs:List Value) (ns:List Int) (c:Nat),s.heap.objs.size<=D->s'.heap.get? D=some {cls:=.type "list",data:=.seq vs.toArray c}->IntsAre vs ns->ns.Pairwise (·<·)->(∀x,x∈ns↔x∈abR es)->(∀b o,s.heap.get? b=some o->s'.heap.get? b=some o)->s'.gens=s.gens->s'.os=s.os->Q (.ref D) s'):
  wpAny (model prog w) A (call (.builtin "sorted") [.ref a]) Q E s:=by
 refine Calls.call_function_entry kind_sorted plain_sorted entry_sorted (args_sorted1 _) ?_
 unfold Builtin.«sorted»
 refine wpAny_bind (m:=checkCount "sorted" 1 1 _) (wpAny_pure (wpAny_bind (apW (A:=A.in1) hh hS X fun s1 vs hp k1 sz1 g1 o1=>?_)))
 have hl:vs.length=es.size:=by rw[hp.length_eq,List.length_map,Array.length_toList]
 refine wpAny_bind (wpAny_newList ?_ (by rw[hl,sizeLine_eq];omega))
 have hin:IntsAre vs (vs.map zOf):=by
  have all:∀v∈vs,∃t,v=.int (zOf v) t:=fun v hv=>by
   obtain⟨e,he,rfl⟩:=List.mem_map.mp (hp.mem_iff.mp hv)
   exact axV X.el he
  clear hp hl
  induction vs with
  |nil=>exact .nil
  |cons v r ih=>
   obtain⟨t,e⟩:=all v (by simp)
   rw[List.map_cons]
   rw[e]
   exact .cons _ _ (ih fun u hu=>all u (List.mem_cons_of_mem _ hu))
 have zp:(vs.map zOf).Perm (abR es):=by
  have:=hp.map zOf
  rw[List.map_map] at this
  exact this
 have hoL:(s1.heap.push (seqObj "list" vs.toArray 0)).get? s1.heap.objs.size=some (seqObj "list" vs.toArray 0):=Heap.get?_push_size _ rfl
 refine wpAny_bind (wpAny_holding (wpAny_call_entry slot_list_sort ⟨_,hoL,rfl⟩ entry_list_sort (list_sort_tree hoL hin (by omega) fun out ns' a1 a2 a3=>⟨_,rfl,?_⟩) (args_list_sort _)))
 obtain⟨e,he⟩:=sortedHeap_at (out:=out) hoL
 refine wpAny_pure ⟨_,rfl,k _ s1.heap.objs.size out.toList ns' e (Nat.le_of_lt sz1) (by rw[Array.toArray_toList];exact he) a1 ?_ (fun x=>by rw[a2.mem_iff,zp.mem_iff]) (fun b ob q=>?_) g1 o1⟩
 ·have nd:ns'.Nodup:=a2.nodup_iff.mpr (zp.nodup_iff.mpr X.nd)
  exact (List.pairwise_and_iff.mpr ⟨a3,nd⟩).imp fun ⟨h1,h2⟩=>by omega
 ·have q1:=k1 b ob q
  have lb:=Heap.lt_size q1
  rw[sortedHeap_old (Nat.ne_of_lt lb) (by rw[size_push'];exact Nat.lt_succ_of_lt lb)]
  exact Heap.get?_push_of_some _ q1
end
def stO(P:Program)(w:World)(q:Addr)(ns:List Int):HO:=.ext fun h=>∃es ep t,h.get? q=some (aaS es ep t)/\SetE P w es t/\∀x,x∈abR es↔x∈ns
theorem Inv.other{X:Cx}{pins:List (Addr×Obj)}{σ:St}{H:Hp}{s s':Shared}(I:Inv X pins σ H s)(e1:s'.heap=s.heap)(e2:s'.gens=s.gens)(e3:s'.os=s.os):Inv X pins σ H s':=by
 obtain⟨h,g,d,t,o⟩:=s
 obtain⟨h',g',d',t',o'⟩:=s'
 cases e1
 cases e2
 cases e3
 exact⟨I.ok,I.os,I.bare,I.base,I.loc,I.cell,I.free,I.freeC,I.pin,I.hok,I.len⟩
theorem apO:∀{ns:List Int} {us:List Value},Vals (ns.map V.int) us->IntsAre us ns
 |[],_,r=>by cases r;exact .nil
 |n::ns,_,.cons h r=>by
  obtain⟨t,rfl⟩:=h
  exact .cons n t (apO r)
theorem agA:∀(n:Nat) {zs:List Int},zs.Nodup->(∀x∈zs,0<=x/\x<n)->zs.length<=n
 |0,zs,_,hb=>by
  cases zs with
  |nil=>exact Nat.le_refl _
  |cons x r=>
   have:=hb x (by simp)
   omega
 |n+1,zs,hn,hb=>by
  by_cases c:(n:Int)∈zs
  ·have h1:=agA n (hn.erase (n:Int)) fun x hx=>by
    obtain⟨h2,h3⟩:=hn.mem_erase_iff.mp hx
    have:=hb x h3
    omega
   rw[List.length_erase_of_mem c] at h1
   omega
  ·have h1:=agA n hn fun x hx=>by
    have:=hb x hx
    have:x≠n:=fun e=>c (e▸hx)
    omega
   omega
section
variable{X:Cx}
theorem cSet(hc:X.calm=true:=by rfl):Cl1 X (.type "set") (fun xs H Q=>∃(p:Addr) (ns:List Int),xs=[.ref p]/\SqL X.K H p (ns.map V.int)/\ns.length+1<4096/\∀q,H q=none->Q (.ref q) (upd H q (stO X.prog X.w q ns))):=by
 refine⟨fun pins s σ H xs us Q I r h=>?_⟩
 obtain⟨p,ns,rfl,hS,hl,k⟩:=h
 obtain⟨u,rfl,ru⟩:=abT r
 cases ru
 obtain⟨its,rv,pl,hlen⟩:=I.list hS
 have hi:=apO rv
 refine atO (I.ok.hd hc) pl.isList (by simpa using hi) (by have:=IntsAre.length hi;show its.toArray.size+1<4096;rw[List.size_toArray];omega) fun h' tk es ep t e SE m kp=>?_
 refine⟨.ref s.heap.objs.size,_,I.laid (a:=s.heap.objs.size) (o:=stO X.prog X.w s.heap.objs.size ns) kp (Nat.le_refl _) ⟨⟨es,ep,t,e,SE,m⟩,⟨_,e⟩,fun h1 h2 ⟨es,ep,t,e,SE,m⟩ kk=>⟨es,ep,t,kk _ e,SE,m⟩⟩,rfl,k _ (I.hok.fresh (Nat.le_refl _))⟩
theorem cSrt(hc:X.calm=true:=by rfl):Cl1 X (.builtin "sorted") (fun xs H Q=>∃(q:Addr) (ns:List Int),xs=[.ref q]/\H q=some (stO X.prog X.w q ns)/\(∀x∈ns,0<=x/\x<63)/\∀(D:Addr) (zs:List Int),H D=none->zs.Pairwise (·<·)->(∀x,x∈zs↔x∈ns)->Q (.ref D) (upd H D (.lst (zs.map V.int)))):=by
 refine⟨fun pins s σ H xs us Q I r h=>?_⟩
 obtain⟨q,ns,rfl,hq,hb,k⟩:=h
 obtain⟨u,rfl,ru⟩:=abT r
 cases ru
 obtain⟨es,ep,t,e,SE,m⟩:=(I.hok q _ hq).1
 have h63:=agA 63 SE.nd fun x hx=>hb x ((m x).mp hx)
 have hes:es.size<64:=by
  unfold abR at h63
  rw[List.length_map,Array.length_toList] at h63
  omega
 refine aqL (I.ok.hd hc) e SE hes fun s' D vs zs c lD eD hi hp hm kp g o=>?_
 have vz:=agV hi
 have lz:zs.length<=63:=agA 63 (hp.imp fun h=>by omega) fun x hx=>hb x ((m x).mp ((hm x).mp hx))
 have J:=(I.laid (a:=D) (o:=.lst (zs.map V.int)) (t':=s.toks) (h':=s'.heap) kp lD ⟨by rw[List.length_map,sizeLine_eq];omega,vs,c,vz,eD⟩).other (s':=s') rfl g o
 exact⟨.ref D,_,J,rfl,k D zs (I.hok.fresh lD) hp fun x=>(hm x).trans (m x)⟩
end
section
variable{X:Cx}
end
section
variable{js:List Nat}{σ:St}{tt:TT}{te:TE}{Q:VK}{H1:Hp}
end
theorem ifX{a b:List Nat}{A B:Prop}(h1:a=b->A)(h2:¬a=b->B):if decide (V.str (Tx a)=V.str (Tx b))=true then A else B:=by
 rw[av1]
 exact ifD h1 h2
theorem arI{a:List Nat}{A B:Prop}(h:A):if decide (V.str (Tx a)=V.str (Tx a))=true then A else B:=ifX (fun _=>h) fun c=>absurd rfl c
theorem ac0{a b:List Nat}{A B:Prop}(c:¬a=b)(h:B):if decide (V.str (Tx a)=V.str (Tx b))=true then A else B:=ifX (fun e=>absurd e c) fun _=>h
end L2
namespace KM
open PySem PySem.Spec PyProof.Rows L2
inductive Mk where
 |num (m:Int) | lst (b:Int) | nea (d:Int) | wrk | wkd (m:Int) | nth (w m:Int) | one (w:Int) | nil
 deriving DecidableEq
def Lf(l f:Int):Prop:=(28<=l/\l<=31)/\0<=f/\f<=6
def abV(ds:List Int):Int:=(ds.map fun d=>1*2^d.toNat).sum
def asc:List Int->Bool
 |[]=>true
 |[_]=>true
 |x::y::r=>decide (x<y)&&asc (y::r)
def okA(ds:List Int):Bool:=decide (ds.length<=31)&&(asc ds&&ds.all fun d=>decide (0<=d)&&decide (d<=31))
theorem auU:∀{ds:List Int},asc ds=true->ds.Pairwise (·<·)
 |[],_=>.nil
 |[_],_=>.cons (fun _ h=>nomatch h) .nil
 |x::y::r,h=>by
  have h':(decide (x<y)&&asc (y::r))=true:=h
  rw[Bool.and_eq_true] at h'
  have ih:=auU h'.2
  refine .cons (fun z hz=>?_) ih
  rcases List.mem_cons.mp hz with rfl | hz
  ·exact of_decide_eq_true h'.1
  ·exact Int.lt_trans (of_decide_eq_true h'.1) ((List.pairwise_cons.mp ih).1 z hz)
theorem am4{ds:List Int}(h:okA ds=true):ds.length<=31/\ds.Pairwise (·<·)/\∀d∈ds,0<=d/\d<=31:=by
 unfold okA at h
 rw[Bool.and_eq_true,Bool.and_eq_true] at h
 refine⟨of_decide_eq_true h.1,auU h.2.1,fun d hd=>?_⟩
 have z:=List.all_eq_true.mp h.2.2 d hd
 rw[Bool.and_eq_true] at z
 exact⟨of_decide_eq_true z.1,of_decide_eq_true z.2⟩
theorem apC:∀{zs ns:List Int},zs.Pairwise (·<·)->ns.Pairwise (·<·)->(∀x,x∈zs↔x∈ns)->zs=ns
 |[],[],_,_,_=>rfl
 |[],n::ns,_,_,h=>nomatch (h n).mpr (List.mem_cons_self ..)
 |z::zs,[],_,_,h=>nomatch (h z).mp (List.mem_cons_self ..)
 |z::zs,n::ns,h1,h2,h=>by
  have p1:=List.pairwise_cons.mp h1
  have p2:=List.pairwise_cons.mp h2
  have e:z=n:=by
   rcases List.mem_cons.mp ((h z).mp (List.mem_cons_self ..)) with e | hz
   ·exact e
   ·rcases List.mem_cons.mp ((h n).mpr (List.mem_cons_self ..)) with e | hn
    ·exact e.symm
    ·have a:=p2.1 z hz
     have b:=p1.1 n hn
     omega
  subst e
  have ih:=apC p1.2 p2.2 fun x=>by
   constructor
   ·intro hx
    rcases List.mem_cons.mp ((h x).mp (List.mem_cons_of_mem _ hx)) with e | hx'
    ·have:=p1.1 x hx;omega
    ·exact hx'
   ·intro hx
    rcases List.mem_cons.mp ((h x).mpr (List.mem_cons_of_mem _ hx)) with e | hx'
    ·have:=p2.1 x hx;omega
    ·exact hx'
  rw[ih]
theorem aiT(ds:List Int):0<=abV ds:=by
 unfold abV
 induction ds with
 |nil=>exact Int.le_refl 0
 |cons d ds ih=>
  have:=abU d.toNat
  rw[List.map_cons,List.sum_cons]
  omega
theorem asC{n:Nat}:∀{ds:List Int} (a:Nat),ds.Pairwise (·<·)->(∀d∈ds,(a:Int)<=d/\d<(n:Int))->a<=n->abV ds+2^a<=2^n
 |[],a,_,_,h=>by
  have:=Nat.pow_le_pow_right (show 0<2 by decide) h
  have e:((2:Int)^a)<=2^n:=by exact_mod_cast this
  show (0:Int)+2^a<=2^n
  omega
 |d::ds,a,hp,hb,h=>by
  have p:=List.pairwise_cons.mp hp
  have hd:=hb d (List.mem_cons_self ..)
  have ih:=asC (n:=n) (d.toNat+1) p.2 (fun z hz=>by
   have:=p.1 z hz
   have:=hb z (List.mem_cons_of_mem _ hz)
   omega) (by omega)
  have hm:=Nat.pow_le_pow_right (show 0<2 by decide) (show a<=d.toNat by omega)
  have e:((2:Int)^a)<=2^d.toNat:=by exact_mod_cast hm
  have e2:(2:Int)^(d.toNat+1)=2^d.toNat*2:=Int.pow_succ ..
  unfold abV at ih ⊢
  rw[List.map_cons,List.sum_cons]
  omega
theorem awS{n:Nat}:∀{ds:List Int} (a:Nat),ds.Pairwise (·<·)->(∀d∈ds,(a:Int)<=d/\d<(n:Int))->a<=n->ds.length+a<=n
 |[],a,_,_,h=>by simpa using h
 |d::ds,a,hp,hb,h=>by
  have p:=List.pairwise_cons.mp hp
  have hd:=hb d (List.mem_cons_self ..)
  have ih:=awS (n:=n) (d.toNat+1) p.2 (fun z hz=>by
   have:=p.1 z hz
   have:=hb z (List.mem_cons_of_mem _ hz)
   omega) (by omega)
  rw[List.length_cons]
  omega
theorem at2{i:Int}{x y:V}(h0:0<=i)(h1:i<2):∃v,atI [x,y] i=some v/\(v=x∨v=y):=by
 have:i=0∨i=1:=by omega
 rcases this with rfl | rfl
 ·exact⟨x,rfl,.inl rfl⟩
 ·exact⟨y,rfl,.inr rfl⟩
def ak2(m l:Int):Int:=Builtin.bitAnd m (2*2^l.toNat-2)
def ak4(b l:Int):Int:=if l<=b then 0 else 1*2^(l-b).toNat
def agX(m:Int)(n:Nat):Bool:=decide (Builtin.bitAnd (m / 2^(1+(n:Int)).toNat) 1=1)
def acW(m:Int):Nat->List Int
 |0=>[]
 |n+1=>acW m n++(if agX m n=true then [1+(n:Int)] else [])
def bkN(b l:Int):Nat->List Int
 |0=>[]
 |n+1=>bkN b l n++(if decide (1+(n:Int)+b=l)=true then [1+(n:Int)] else [])
def nw(d l f:Int):Int:=if (f+d-1)%7=6 then (if 1<d then d-1 else 3) else if (f+d-1)%7=0 then (if d<l then d+1 else l-2) else d
def agU(d l f:Int):Int:=if l<d then 0 else 1*2^(nw d l f).toNat
def wk(f:Int)(n:Nat):Bool:=decide (1<=(f+(1+(n:Int))-1)%7)&&decide ((f+(1+(n:Int))-1)%7<=5)
def abM(f:Int):Nat->List Int
 |0=>[]
 |n+1=>abM f n++(if wk f n=true then [1+(n:Int)] else [])
def ab(i:Int):Int:=if i<0 then -i else i
def stp(d acc o:Int):Int:=if acc=0 then o else if ab (o-d)<ab (acc-d) then o else acc
def afI(w m f:Int):Int:=1+(w-f)%7+7*(m-1)
def amB(w m l f:Int):Int:=if l<afI w m f then 0 else 1*2^(afI w m f).toNat
def aiW(w l f:Int):Int:=l-((f+l-1)%7-w)%7
def aED(w l f:Int):Int:=1*2^(aiW w l f).toNat
def wks(m:Int):Nat->Int
 |0=>0
 |n+1=>Builtin.bitOr (wks m n) (m*2^(7*(0+(n:Int))).toNat)
def wkD(m l f:Int):Int:=Builtin.bitAnd (wks m 6 / 2^f.toNat*2^(1:Int).toNat) (2*2^l.toNat-2)
def onD(f w:Int)(n:Nat):Bool:=decide ((f+(1+(n:Int))-1)%7=w)
def onN(f w:Int):Nat->List Int
 |0=>[]
 |n+1=>onN f w n++(if onD f w n=true then [1+(n:Int)] else [])
def anF(m f:Int)(n:Nat):Bool:=decide (Builtin.bitAnd (m / 2^((f+(1+(n:Int))-1)%7).toNat) 1=1)
def wkN(m f:Int):Nat->List Int
 |0=>[]
 |n+1=>wkN m f n++(if anF m f n=true then [1+(n:Int)] else [])
def ajT:List Int:=[1,2,3,4,5,6,7,8,9,10,11,12,13,14,15,16,17,18,19,20,21,22,23,24,25,26,27,28,29,30,31]
def ls4:List Int:=[28,29,30,31]
def fs7:List Int:=[0,1,2,3,4,5,6]
def ms5:List Int:=[1,2,3,4,5]
def asI:List Int:=(List.range 128).map fun n:Nat=>(n:Int)
theorem axY:∀l∈ls4,∀b∈0::ajT,ak4 b l=abV (bkN b l l.toNat)/\okA (bkN b l l.toNat)=true:=by decide +kernel
theorem ax7:∀l∈ls4,∀f∈fs7,∀d∈ajT,d<=l->(abM f l.toNat).foldl (stp d) 0=nw d l f/\1<=nw d l f/\nw d l f<=31:=by decide +kernel
theorem auN:∀l∈ls4,∀f∈fs7,atI ((abM f l.toNat).map V.int) (-1)=some (V.int (nw l l f)):=by decide +kernel
theorem arP:∀l∈ls4,∀f∈fs7,∀w∈fs7,∀m∈ms5,amB w m l f=abV (auZ (onN f w l.toNat) (some (m-1)) (some m))/\okA (auZ (onN f w l.toNat) (some (m-1)) (some m))=true/\0<=afI w m f/\afI w m f<=100:=by decide +kernel
theorem arK:∀l∈ls4,∀f∈fs7,∀w∈fs7,atI ((onN f w l.toNat).map V.int) (-1)=some (V.int (aiW w l f))/\0<=aiW w l f/\aiW w l f<=31:=by decide +kernel
theorem al7:∀m∈asI,∀l∈ls4,∀f∈fs7,wkD m l f=abV (wkN m f l.toNat)/\okA (wkN m f l.toNat)=true:=by decide +kernel
theorem aDB:∀m∈asI,(∀n:Nat,n<7->(wks m n).natAbs<2^60)/\∀f∈fs7,(wks m 6 / 2^f.toNat).natAbs<2^64:=by decide +kernel
theorem at0{l:Int}(h0:28<=l)(h1:l<=31):l∈ls4:=by
 have:l=28∨l=29∨l=30∨l=31:=by omega
 rcases this with rfl | rfl | rfl | rfl<;>decide
theorem ajP{f:Int}(h0:0<=f)(h1:f<=6):f∈fs7:=by
 have:f=0∨f=1∨f=2∨f=3∨f=4∨f=5∨f=6:=by omega
 rcases this with rfl | rfl | rfl | rfl | rfl | rfl | rfl<;>decide
theorem aNG{m:Int}(h0:1<=m)(h1:m<=5):m∈ms5:=by
 have:m=1∨m=2∨m=3∨m=4∨m=5:=by omega
 rcases this with rfl | rfl | rfl | rfl | rfl<;>decide
theorem awH{m:Int}(h0:0<=m)(h1:m<=127):m∈asI:=by
 unfold asI
 exact List.mem_map.mpr ⟨m.toNat,List.mem_range.mpr (by omega),by omega⟩
theorem aLI{d:Int}(h0:1<=d)(h1:d<=31):d∈ajT:=by
 have e:d=1+((d-1).toNat:Int):=by omega
 have hn:(d-1).toNat<31:=by omega
 rw[e]
 generalize (d-1).toNat=n at hn
 have all:∀n:Nat,n<31->(1+(n:Int))∈ajT:=by decide +kernel
 exact all n hn
theorem aN6{d:Int}(h0:0<=d)(h1:d<=30):d∈0::ajT:=by
 by_cases e:d=0
 ·rw[e];exact List.mem_cons_self ..
 ·exact List.mem_cons_of_mem _ (aLI (by omega) (by omega))
def Ok3(d l f:Int):Prop:=(1<=d/\d<=31)/\(28<=l/\l<=31)/\0<=f/\f<=6
theorem aiU{d l f:Int}(h:Ok3 d l f)(hd:d<=l):(abM f l.toNat).foldl (stp d) 0=nw d l f/\1<=nw d l f/\nw d l f<=31:=ax7 l (at0 h.2.1.1 h.2.1.2) f (ajP h.2.2.1 h.2.2.2) d (aLI h.1.1 h.1.2) hd
theorem Lf.last{l f:Int}(h:Lf l f):Ok3 l l f:=⟨⟨by have:=h.1.1;omega,h.1.2⟩,h.1,h.2⟩
theorem ayI{m:Int}(h:0<=m)(n:Nat):agX m n=tb m (n+1):=by
 have e:(1+(n:Int)).toNat=n+1:=by omega
 unfold agX
 rw[e]
 by_cases c:tb m (n+1)=true
 ·rw[c];exact decide_eq_true ((ac9 h _).mpr c)
 ·have c':tb m (n+1)=false:=by simpa using c
  rw[c'];exact decide_eq_false fun q=>c ((ac9 h _).mp q)
def auI(m:Int)(i:Nat):Bool:=decide (1<=i)&&tb m i
theorem ao9{m:Int}(h:0<=m):∀n:Nat,abV (acW m n)=mk_ (auI m) (n+1)
 |0=>by
  have e:auI m 0=false:=rfl
  rw[asN,aCD,e]
  rfl
 |n+1=>by
  have ih:=ao9 h n
  rw[asN,←ih]
  show abV (acW m n++(if agX m n=true then [1+(n:Int)] else []))=_
  have e:auI m (n+1)=agX m n:=by rw[ayI h];unfold auI;simp
  have e1:(1+(n:Int)).toNat=n+1:=by omega
  rw[e]
  unfold abV
  rw[List.map_append,List.sum_append]
  by_cases c:agX m n=true
  ·rw[if_pos c,if_pos c]
   show _+(1*2^(1+(n:Int)).toNat+0)=_
   rw[e1]
   omega
  ·rw[if_neg c,if_neg c]
   rfl
theorem arQ(m:Int):∀n:Nat,(acW m n).length<=n/\(acW m n).Pairwise (·<·)/\∀d∈acW m n,0<=d/\d<=n
 |0=>⟨Nat.le_refl _,.nil,fun d hd=>nomatch hd⟩
 |n+1=>by
  obtain⟨h1,hp,h2⟩:=arQ m n
  show (acW m n++(if agX m n=true then [1+(n:Int)] else [])).length<=n+1/\(acW m n++(if agX m n=true then [1+(n:Int)] else [])).Pairwise (·<·)/\∀d∈acW m n++(if agX m n=true then [1+(n:Int)] else []),_
  split
  ·refine⟨by simp;omega,List.pairwise_append.mpr ⟨hp,.cons (fun _ h=>nomatch h) .nil,fun a ha b hb=>?_⟩,fun d hd=>?_⟩
   ·have:b=1+(n:Int):=by simpa using hb
    have:=h2 a ha
    omega
   ·rcases List.mem_append.mp hd with z | z
    ·have:=h2 d z;omega
    ·have:d=1+(n:Int):=by simpa using z
     omega
  ·rw[List.append_nil]
   refine⟨by omega,hp,fun d hd=>?_⟩
   have:=h2 d hd;omega
theorem axX{m l:Int}(h:0<=m)(hl:28<=l/\l<=31):ak2 m l=abV (acW m l.toNat)/\(acW m l.toNat).length<=31/\(acW m l.toNat).Pairwise (·<·)/\∀d∈acW m l.toNat,0<=d/\d<=31:=by
 obtain⟨k1,kp,k2⟩:=arQ m l.toNat
 have hp:=abU l.toNat
 refine⟨?_,by omega,kp,fun d hd=>by have:=k2 d hd;omega⟩
 rw[ao9 h]
 have e:(2*2^l.toNat-2:Int)=(2^l.toNat-1)*2^1:=by omega
 have n0:(0:Int)<=2^l.toNat-1:=by omega
 have n1:(0:Int)<=(2^l.toNat-1)*2^1:=by omega
 unfold ak2
 rw[e]
 refine abE (anA h n1) (av9 _ _) fun i=>?_
 rw[ajQ h n1,aGK n0,asD,axP]
 unfold auI
 by_cases c1:1<=i
 ·have:(i-1<l.toNat)↔(i<l.toNat+1):=by omega
  simp only[c1,this,decide_true,Bool.true_and]
  rw[Bool.and_comm]
 ·simp[c1]
theorem adR(zs:List Int)(z:Int):(zs++[z]).map V.int=zs.map V.int++[V.int z]:=by rw[List.map_append];rfl
theorem rng{l:Int}(hl:28<=l/\l<=31):(-(2^62)<=(1:Int)/\(1:Int)<2^62/\ -(2^62)<=l+1/\l+1<2^62)/\(l+1-1).toNat=l.toNat/\(l+1-1).toNat<=sizeLine:=by
 obtain⟨h0,h1⟩:=hl
 refine⟨⟨by decide,by decide,by omega,by omega⟩,by omega,?_⟩
 rw[sizeLine_eq]
 omega
def an0(w m:Int):List (Str×V):=aaO "many" (.int m) (aaO "weekday" (.int w) [])
theorem ne1:¬(("weekday":Str)="many"):=by decide +kernel
theorem aIN(w m:Int):(an0 w m).lookup ("weekday":Str)=some (.int w):=by
 unfold an0
 rw[aaD,if_neg ne1,aaD,if_pos rfl]
theorem aE5(w m:Int):(an0 w m).lookup ("many":Str)=some (.int m):=by
 unfold an0
 rw[aaD,if_pos rfl]
theorem azJ(w m:Int):(an0 w m).lookup ("days":Str)=none:=by
 unfold an0
 rw[aaD,if_neg (by decide +kernel),aaD,if_neg (by decide +kernel)]
 rfl
def Mk.due:Mk->Int->Int->Int
 |.num m,l,_=>ak2 m l
 |.lst b,l,_=>ak4 b l
 |.nea d,l,f=>agU d l f
 |.wrk,l,f=>1*2^(nw l l f).toNat
 |.wkd m,l,f=>wkD m l f
 |.nth w m,l,f=>amB w m l f
 |.one w,l,f=>aED w l f
 |.nil,_,_=>0
def Mk.ok:Mk->Prop
 |.num m=>0<=m
 |.lst b=>0<=b/\b<=30
 |.nea d=>1<=d/\d<=31
 |.wrk=>True
 |.wkd m=>0<=m/\m<=127
 |.nth w m=>(0<=w/\w<=6)/\1<=m/\m<=5
 |.one w=>0<=w/\w<=6
 |.nil=>True
def Mk.wk:Mk->Bool
 |.wkd _ | .nth _ _ | .one _=>true
 |_=>false
def Mk.tup:Mk->List V
 |.num m=>[.str (Tx [112,108,97,105,110]),.int m,.int 0]
 |.wkd m=>[.str (Tx [112,108,97,105,110]),.int m,.int 0]
 |.lst b=>[.str (Tx [108,97,115,116]),.int b,.int 0]
 |.nea d=>[.str (Tx [110,101,97,114]),.int d,.int 0]
 |.wrk=>[.str (Tx [119,111,114,107]),.int 0,.int 0]
 |.nth w m=>[.str (Tx [110,116,104]),.int w,.int m]
 |.one w=>[.str (Tx [108,97,115,116,111,110,101]),.int w,.int 0]
 |.nil=>[]
def Mk.sp:Mk->Bool
 |.nil=>false
 |_=>true
theorem ap9{k:Mk}{l f:Int}(hk:k.ok)(h:Lf l f):0<=k.due l f:=by
 have p1:∀n:Nat,(0:Int)<=1*2^n:=fun n=>by have:=abU n;omega
 cases k with
 |num m=>show 0<=ak2 m l;rw[(axX hk h.1).1];exact aiT _
 |lst b=>show 0<=ak4 b l;unfold ak4;split;exact Int.le_refl 0;exact p1 _
 |nea d=>show 0<=agU d l f;unfold agU;split;exact Int.le_refl 0;exact p1 _
 |wrk=>exact p1 _
 |wkd m=>show 0<=wkD m l f;rw[(al7 m (awH hk.1 hk.2) l (at0 h.1.1 h.1.2) f (ajP h.2.1 h.2.2)).1];exact aiT _
 |nth w m=>show 0<=amB w m l f;unfold amB;split;exact Int.le_refl 0;exact p1 _
 |one w=>exact p1 _
 |nil=>exact Int.le_refl 0
def orK(ks:List Mk)(l f:Int):Int:=orM (ks.map fun k=>k.due l f)
theorem an9(ks:List Mk)(k:Mk)(l f:Int):orK (ks++[k]) l f=Builtin.bitOr (orK ks l f) (k.due l f):=by unfold orK;rw[List.map_append];exact afS _ _
theorem aI5{ks ks':List Mk}{l f:Int}(h:Lf l f)(o:∀k∈ks,k.ok)(o':∀k∈ks',k.ok)(e:∀i,(ks.any fun k=>tb (k.due l f) i)=(ks'.any fun k=>tb (k.due l f) i)):orK ks l f=orK ks' l f:=by
 have n:∀(js:List Mk),(∀k∈js,k.ok)->∀m∈js.map (fun k=>k.due l f),0<=m:=fun js hj m hm=>by
  obtain⟨k,hk,rfl⟩:=List.mem_map.mp hm
  exact ap9 (hj k hk) h
 refine abE (ab0 (n ks o)) (ab0 (n ks' o')) fun i=>?_
 unfold orK
 rw[acB (n ks o),acB (n ks' o'),List.any_map,List.any_map]
 exact e i
structure Cs where
 (nu la ne lw we nt lo ma:Addr)
def MkAt(c:Cs)(H:Hp)(x:Addr):Mk->Prop
 |.num m=>∃dx,H x=some (.ins c.nu dx [("mask",.int m)])
 |.lst b=>∃dx,H x=some (.ins c.la dx [("back",.int b)])
 |.nea d=>∃dx,H x=some (.ins c.ne dx [("day",.int d)])
 |.wrk=>∃dx,H x=some (.ins c.lw dx [])
 |.wkd m=>∃dx,H x=some (.ins c.we dx [("mask",.int m)])
 |.nth w m=>∃dx,H x=some (.ins c.nt dx (an0 w m))
 |.one w=>∃dx,H x=some (.ins c.lo dx [("weekday",.int w)])
 |.nil=>∃dx,H x=some (.ins c.ma dx [])
theorem MkAt.keep{c:Cs}{H H':Hp}(s:Keep H H'){x:Addr}{k:Mk}(h:MkAt c H x k):MkAt c H' x k:=by
 cases k<;>(obtain⟨dx,h⟩:=h;exact⟨dx,s.ins h⟩)
def PrAt(H:Hp)(p:Addr)(k:Mk):Prop:=k.ok/\k.sp=true/\∃u,H p=some (.tup [.ref u,.bl k.wk])/\H u=some (.tup k.tup)
theorem PrAt.keep{H H':Hp}(s:Keep H H'){p:Addr}{k:Mk}(h:PrAt H p k):PrAt H' p k:=by
 obtain⟨o,e,u,h1,h2⟩:=h
 exact⟨o,e,u,s.tup h1,s.tup h2⟩
abbrev Ft(R:Addr->Mk->Prop):List Addr->List Mk->Prop:=Paired R
theorem Ft.get{R:Addr->Mk->Prop}:∀{ps:List Addr} {ks:List Mk},Ft R ps ks->∀{i:Nat} {p:Addr},ps[i]? =some p->∃k,ks[i]? =some k/\R p k
 |_,_,.nil,_,_,h=>nomatch h
 |_,_,.cons r _,0,_,h=>by cases h;exact⟨_,rfl,r⟩
 |_,_,.cons _ t,i+1,_,h=>Ft.get t h
theorem Ft.keepM{c:Cs}{H H':Hp}(s:Keep H H'){ps:List Addr}{ks:List Mk}(h:Ft (MkAt c H) ps ks):Ft (MkAt c H') ps ks:=Paired.imp' (fun _ _ z=>z.keep s) h
theorem Ft.app{R:Addr->Mk->Prop}:∀{ps:List Addr} {ks:List Mk} {ps':List Addr} {ks':List Mk},Ft R ps ks->Ft R ps' ks'->Ft R (ps++ps') (ks++ks')
 |_,_,_,_,.nil,h=>h
 |_,_,_,_,.cons r t,h=>.cons r (Ft.app t h)
end KM
namespace L2
open PySem
theorem abQ{us:List Value}(h:us.length=1):∃a,us=[a]:=by
 cases us with
 |nil=>cases h
 |cons a r=>cases r with
  |nil=>exact⟨a,rfl⟩
  |cons b r=>cases h
theorem aAR{us:List Value}{n:Nat}(h:us.length=n+1):∃a r,us=a::r/\r.length=n:=by
 cases us with
 |nil=>cases h
 |cons a r=>exact⟨a,r,rfl,Nat.succ.inj h⟩
theorem abY{us:List Value}(h:us.length=2):∃a b,us=[a,b]:=by
 obtain⟨a,r,rfl,h'⟩:=aAR h
 obtain⟨b,rfl⟩:=abQ h'
 exact⟨a,b,rfl⟩
theorem abZ{us:List Value}(h:us.length=3):∃a b c,us=[a,b,c]:=by
 obtain⟨a,r,rfl,h'⟩:=aAR h
 obtain⟨b,c,rfl⟩:=abY h'
 exact⟨a,b,c,rfl⟩
theorem ap4{us:List Value}(h:us.length=4):∃a b c d,us=[a,b,c,d]:=by
 obtain⟨a,r,rfl,h'⟩:=aAR h
 obtain⟨b,c,d,rfl⟩:=abZ h'
 exact⟨a,b,c,d,rfl⟩
theorem len5{us:List Value}(h:us.length=5):∃a b c d e,us=[a,b,c,d,e]:=by
 obtain⟨a,r,rfl,h'⟩:=aAR h
 obtain⟨b,c,d,e,rfl⟩:=ap4 h'
 exact⟨a,b,c,d,e,rfl⟩
structure DfA(P:Program)(w:World)(K:PySem.W.Frag)(mg:Str->Option Value)(base:Heap)(f:Addr)(k:Nat)(ps:List Str)(sp:Sp):Prop where
 ex:∃fd:FuncData,FnOk P w K mg base CX0 k f fd ps sp/\Binds K fd ps []/\PySem.W.keepIn K (.ref f)=true
theorem Df.at_{P:Program}{w:World}{K:PySem.W.Frag}{mg:Str->Option Value}{base:Heap}{x:Str}{k:Nat}{ps:List Str}{sp:Sp}{f:Addr}(D:Df P w K mg base x k ps sp)(hm:mg x=some (.ref f)):DfA P w K mg base f k ps sp:=by
 obtain⟨f',fd,F,hb,hm',kp⟩:=D.ex
 rw[hm] at hm'
 cases hm'
 exact⟨fd,F,hb,kp⟩
def aI6(f:Addr)(sp:Sp)(tv:TE)(t:TA):TE:=fun σ H Q=>tv σ H fun v H1=>v=.ref f/\ar6 sp [] E0 t σ H1 Q
section
variable{X:Cx}{f:Addr}{k k':Nat}{ps:List Str}{sp:Sp}{y:Str}{e:Expr}{es:List Expr}{t:TA}{tv:TE}{p pos:Pos}
theorem eDV(D:DfA X.prog X.w X.K X.mg X.base f k ps sp)(hr:Room k' X.A)(hv:E X (.Name y p) tv)(ha:As X (e::es) t)(hk:k<=k':=by decide)
  (he:starEach (e::es) X.env=(false,eval e X.env)::starEach es X.env:=by rfl) (hpl:(backTo pos (starEach es X.env)).any (·.1)=false:=by rfl):E X (.Call (.Name y p) (e::es) [] pos) (aI6 f sp tv t):=by
 obtain⟨fd,F,hb,kp⟩:=D.ex
 refine⟨fun pins s σ H Q I h=>?_⟩
 refine wpAny_Call_Name_kw (thn (hv.h pins s σ H _ I h) fun v s1 ⟨x,H1,I1,r1,ex,q⟩=>?_)
 subst ex
 cases r1
 refine PySem.W.callWith_K (h₀:=X.base) I1.ok.mod.kin kp (thn (ha.h pos pins s1 σ H1 _ I1 q) fun us s2 ⟨vs,H2,I2,r,q2⟩=>⟨I2.kIn,?_⟩) he hpl
 exact aqX F (hr.mono hk) hb .nil aoJ I2 r q2
end
section
variable{X:Cx}
def aMO:V->List V->Hp->VK->Prop:=fun x vs H Q=>∃l p:List Nat,x=.str (Tx l)/\vs=[.str (Tx p)]/\Q (.bl (decide (l.take p.length=p))) H
theorem aE8(l p:List Nat):(decide (0+(Tx p).length<=(Tx l).length)&&Builtin.Str.subAt (Tx l) (Tx p) 0)=decide (l.take p.length=p):=by
 rw[abA,abA]
 have e:(Tx l).cps.extract 0 (0+(Tx p).length)=(l.take p.length).toArray:=by
  rw[abA]
  show l.toArray.extract 0 (0+p.length)=_
  simp
 have e2:(((l.take p.length).toArray==p.toArray:Bool))=decide (l.take p.length=p):=by
  by_cases h:l.take p.length=p
  ·rw[h];simp
  ·rw[decide_eq_false h]
   exact beq_eq_false_iff_ne.mpr fun z=>h (by simpa using congrArg Array.toList z)
 unfold Builtin.Str.subAt
 rw[e]
 show (_&&((l.take p.length).toArray==p.toArray))=_
 rw[e2]
 by_cases h:l.take p.length=p
 ·have:0+p.length<=l.length:=by
   have:=congrArg List.length h
   rw[List.length_take] at this
   omega
  rw[decide_eq_true this,Bool.true_and]
 ·rw[decide_eq_false h,Bool.and_false]
theorem aHP:MtR X "str.startswith" aMO:=by
 intro pins s σ H x xs v us Q I rx rv h
 obtain⟨l,p,rfl,rfl,q⟩:=h
 obtain⟨u,rfl,r1⟩:=abT rv
 obtain⟨t',rfl⟩:=r1
 obtain⟨t,rfl⟩:=rx
 refine call_gives PySem.F.slot_str_startswith (typeIs_str _ _ _) PySem.F.entry_str_startswith (PySem.F.args_str_startswith_2 _ _) (gives_str_startswith (Tx l) (Tx p) t t') ?_
 rw[aE8]
 exact⟨.bl _,H,I,rfl,q⟩
theorem eSwN{o e:Expr}{to te:TE}{apos cpos:Pos}(ho:E X o to)(he:E X e te)(hbase:attributeBase o "startswith" X.env (eval o X.env)=eval o X.env:=by rfl)
  (hfew:((backTo cpos (starEach [e] X.env)).all (fun x=> !x.1)&&(backToKw cpos (keywordEach [] X.env)).all (fun x=>x.1.isSome)&&decide (([e]:List Expr).length+([]:List Keyword).length+(if ([]:List Keyword).isEmpty then 0 else 1)<30))=true:=by rfl)
  (hline:(apos.endLine==cpos.line)=true:=by rfl) (hs:starEach [e] X.env=(false,eval e X.env)::starEach [] X.env:=by rfl) (hplain:(backTo cpos (starEach [] X.env)).any (·.1)=false:=by rfl):
  E X (.Call (.Attribute o "startswith" apos) [e] [] cpos) (tBM X.K "str" aMO to (ahJ te ak0)):=
 ⟨an4 PySem.F.plainAttrs_str PySem.F.slot_str_startswith PySem.F.type_str_startswith aHP ho.h (acN he.h ad0 hs) hbase hfew hline hs hplain⟩
def rEw:V->List V->Hp->VK->Prop:=fun x vs H Q=>∃(l:List Nat) (c:Nat),x=.str (Tx l)/\vs=[.str (Tx [c])]/\Q (.bl (decide (l.getLast? =some c))) H
theorem aNI(l:List Nat)(c:Nat):(decide (0+(Tx [c]).length<=(Tx l).length)&&Builtin.Str.subAt (Tx l) (Tx [c]) ((Tx l).length-(Tx [c]).length))=decide (l.getLast? =some c):=by
 rw[abA,abA]
 rcases List.eq_nil_or_concat l with rfl | ⟨r,x,rfl⟩
 ·simp
 ·rw[List.concat_eq_append]
  have e:(Tx (r++[x])).cps.extract ((r++[x]).length - [c].length) ((r++[x]).length - [c].length+(Tx [c]).length)= #[x]:=by
   show (r++[x]).toArray.extract ((r++[x]).length-1) ((r++[x]).length-1+1)= #[x]
   rw[List.length_append,List.length_singleton,Nat.add_sub_cancel]
   simp
  unfold Builtin.Str.subAt
  rw[e]
  have e2:decide (0+[c].length<=(r++[x]).length)=true:=by simp
  rw[e2,Bool.true_and,List.getLast?_append,List.getLast?_singleton]
  show (#[x]== #[c])=decide (some x=some c)
  by_cases h:x=c
  ·subst h;simp
  ·have h2:¬some x=some c:=fun z=>h (Option.some.inj z)
   rw[decide_eq_false h2]
   exact beq_eq_false_iff_ne.mpr fun z=>h (by simpa using z)
theorem aN9:MtR X "str.endswith" rEw:=by
 intro pins s σ H x xs v us Q I rx rv h
 obtain⟨l,c,rfl,rfl,q⟩:=h
 obtain⟨u,rfl,r1⟩:=abT rv
 obtain⟨t',rfl⟩:=r1
 obtain⟨t,rfl⟩:=rx
 refine call_gives PySem.F.slot_str_endswith (typeIs_str _ _ _) PySem.F.entry_str_endswith (PySem.F.args_str_endswith_2 _ _) (gives_str_endswith (Tx l) (Tx [c]) t t') ?_
 rw[aNI]
 exact⟨.bl _,H,I,rfl,q⟩
theorem eEw{o e:Expr}{to te:TE}{apos cpos:Pos}(ho:E X o to)(he:E X e te)(hbase:attributeBase o "endswith" X.env (eval o X.env)=eval o X.env:=by rfl)
  (hfew:((backTo cpos (starEach [e] X.env)).all (fun x=> !x.1)&&(backToKw cpos (keywordEach [] X.env)).all (fun x=>x.1.isSome)&&decide (([e]:List Expr).length+([]:List Keyword).length+(if ([]:List Keyword).isEmpty then 0 else 1)<30))=true:=by rfl)
  (hline:(apos.endLine==cpos.line)=true:=by rfl) (hs:starEach [e] X.env=(false,eval e X.env)::starEach [] X.env:=by rfl) (hplain:(backTo cpos (starEach [] X.env)).any (·.1)=false:=by rfl):
  E X (.Call (.Attribute o "endswith" apos) [e] [] cpos) (tBM X.K "str" rEw to (ahJ te ak0)):=
 ⟨an4 PySem.F.plainAttrs_str PySem.F.slot_str_endswith PySem.F.type_str_endswith aN9 ho.h (acN he.h ad0 hs) hbase hfew hline hs hplain⟩
end
end L2
namespace KM
open PySem PySem.Spec PyProof.Rows L2
def acV(t:List Nat):Option Mk:=
 if t=[76] then some (.lst 0) else if t=[76,87] then some .wrk
 else if t.take ([76,45]:List Nat).length=[76,45] then (aaP 1 30 (aeS t (some 2) none)).map Mk.lst
 else if t.getLast? =some 87 then (aaP 1 31 (aeS t none (some (-1)))).map Mk.nea else none
def wdN(t:List Nat):Option Int:=(aaP 0 7 t).map fun n=>if n=7 then 0 else n
def aD3:Option Int->Option Int->Option Mk
 |some w,some m=>some (.nth w m)
 |_,_=>none
def anZ(t:List Nat):Option Mk:=
 if t.getLast? =some 76 then (wdN (aeS t none (some (-1)))).map Mk.one
 else match spl 35 t with
  |[a,b]=>aD3 (wdN a) (aaP 1 5 b)
  |_=>none
def rdM(wk:Bool)(t:List Nat):Option Mk:=if wk=true then anZ t else acV t
def MkV(c:Cs)(H:Hp)(v:V):Option Mk->Prop
 |none=>v=.non
 |some k=>∃x,v=.ref x/\MkAt c H x k
theorem abK(c:Nat):∀(l:List Nat),∀w∈spl c l,w.length<=l.length
 |[],w,hw=>by simp[spl] at hw;simp[hw]
 |x::r,w,hw=>by
  have ih:=abK c r
  unfold spl at hw
  split at hw
  ·rcases List.mem_cons.mp hw with z | z
   ·subst z;simp
   ·have:=ih w z;simp;omega
  ·split at hw
   ·rename_i h t e
    rcases List.mem_cons.mp hw with z | z
    ·subst z
     have:=ih h (by rw[e];simp)
     simp;omega
    ·have:=ih w (by rw[e];simp[z])
     simp;omega
   ·have:w=[x]:=by simpa using hw
    subst this;simp
def plP(lo hi:Int)(ws:List (List Nat)):List Int:=ws.filterMap (aaH lo hi)
def mkP(wk:Bool)(lo hi:Int)(ws:List (List Nat)):List Mk:=ws.filterMap fun w=>if (aaH lo hi w).isSome=true then none else rdM wk w
theorem aCT{lo hi:Int}{ws:List (List Nat)}{w:List Nat}{m:Int}(h:aaH lo hi w=some m):plP lo hi (ws++[w])=plP lo hi ws++[m]:=by
 unfold plP
 rw[List.filterMap_append]
 simp[h]
theorem auL{lo hi:Int}{ws:List (List Nat)}{w:List Nat}(h:aaH lo hi w=none):plP lo hi (ws++[w])=plP lo hi ws:=by
 unfold plP
 rw[List.filterMap_append]
 simp[h]
theorem aIF{wk:Bool}{lo hi:Int}{ws:List (List Nat)}{w:List Nat}{m:Int}(h:aaH lo hi w=some m):mkP wk lo hi (ws++[w])=mkP wk lo hi ws:=by
 unfold mkP
 rw[List.filterMap_append]
 simp[h]
theorem aiS{wk:Bool}{lo hi:Int}{ws:List (List Nat)}{w:List Nat}{k:Mk}(h:aaH lo hi w=none)(hk:rdM wk w=some k):mkP wk lo hi (ws++[w])=mkP wk lo hi ws++[k]:=by
 unfold mkP
 rw[List.filterMap_append]
 simp[h,hk]
theorem aoK(wk:Bool)(lo hi:Int)(ws:List (List Nat))(i:Nat):(mkP wk lo hi (ws.take i)).length<=(mkP wk lo hi ws).length:=((List.take_sublist i ws).filterMap _).length_le
structure ItemsOk(wk:Bool)(lo hi:Int)(l:List Nat):Prop where
 len:l.length<=300
 few:(spl 44 l).length<=40
 all:∀w∈spl 44 l,(aaH lo hi w).isSome=true∨(rdM wk w).isSome=true
 most:(mkP wk lo hi (spl 44 l)).length<=20
theorem aEC{xs:List V}(h:xs.length<=40):ahZ xs none (some 40)=xs:=by
 unfold ahZ
 have e1:HT.sIx xs.length 0 none=0:=rfl
 have e2:xs.length<=HT.sIx xs.length xs.length (some 40):=by
  show xs.length<=HT.sIx xs.length xs.length (some 40)
  unfold HT.sIx
  simp
  omega
 rw[e1,List.drop_zero,Nat.sub_zero]
 exact List.take_of_length_le e2
def RunV(H:Hp)(r:V):Option (Int×Int)->Prop
 |none=>r=.non
 |some (a,b)=>∃p,r=.ref p/\H p=some (.tup [.int a,.int b])
theorem ay0(es:List (Option Int)):(es.map oV).all afD=true:=by
 rw[List.all_map]
 refine List.all_eq_true.mpr fun x _=>?_
 cases x<;>rfl
def wk7(m:Int):Int:=Builtin.bitAnd (Builtin.bitOr m (m / 2^(7:Int).toNat)) 127
def afA(wk:Bool)(m:Int):List Mk:=if m=0 then [] else if wk=true then [.wkd (wk7 m)] else [.num m]
def ai8(wk:Bool)(lo hi:Int)(l:List Nat):List Mk:=afA wk (orM (plP lo hi (spl 44 l)))++mkP wk lo hi (spl 44 l)
def Cl(t:List Nat):Prop:=(44∉t/\32∉t)/\t≠[]/\t.length<=8
instance (t:List Nat):Decidable (Cl t):=by unfold Cl;exact inferInstance
def adG(lo hi:Int)(t:List Nat)(ns:List Int):Prop:=aaH lo hi t=some (aa3 ns)/\Cl t/\(∀n∈ns,lo<=n/\n<=hi)/\ns≠[]/\ns.length<=64
theorem ac4{c:Nat}{a b:List Nat}{d:Nat}(h1:c∉a)(h2:c∉b)(h3:c≠d):c∉a++d::b:=by
 simp only[List.mem_append,List.mem_cons,not_or]
 exact⟨h1,h3,h2⟩
theorem amU{a b:List Nat}{d:Nat}(ha:(44∉a/\32∉a)/\a≠[]/\a.length<=5)(hb:(44∉b/\32∉b)/\b.length<=2)(h1:44≠d)(h2:32≠d):Cl (a++d::b):=by
 refine⟨⟨ac4 ha.1.1 hb.1.1 h1,ac4 ha.1.2 hb.1.2 h2⟩,by simp,?_⟩
 have:=ha.2.2
 have:=hb.2
 rw[List.length_append,List.length_cons]
 omega
theorem adC{n:Nat}(h:n<100):(44∉num n/\32∉num n)/\num n≠[]/\(num n).length<=2:=⟨⟨aa0 h (by decide),aa0 h (by decide)⟩,aKM n,(ag2 n h).2.2.2⟩
theorem afN{a b s lo hi:Int}(h0:0<=a)(h1:b<=63)(hab:a<=b)(hs:0<s)(hl:lo<=a)(hb:b<=hi):(∀n∈acI a b s,lo<=n/\n<=hi)/\acI a b s≠[]/\(acI a b s).length<=64:=by
 refine⟨fun n hn=>?_,fun e=>?_,?_⟩
 ·have:=(amC hs).mp hn
  omega
 ·have:a∈acI a b s:=(amC hs).mpr ⟨Int.le_refl _,hab,by rw[Int.sub_self];rfl⟩
  rw[e] at this
  cases this
 ·rw[ab4,List.length_map,List.length_range,aiQ hs,if_pos hab]
  have:=Int.ediv_le_self (a:=b-a) s (by omega)
  omega
theorem aB5(a:Int):acI a a 1=[a]:=by
 rw[ab4,aiQ (by decide),if_pos (Int.le_refl a),Int.sub_self]
 show [a+((0:Nat):Int)*1]=[a]
 simp
theorem i1{lo hi a:Int}(h0:0<=lo)(h1:lo<=a)(h2:a<=hi)(h3:hi<=63):adG lo hi (num a.toNat) [a]:=by
 have ha:a.toNat<100:=by omega
 have e:=asA (lo:=lo) (hi:=hi) ha (by omega) (by omega)
 rw[Int.toNat_of_nonneg (by omega)] at e
 have c:=adC ha
 have r:=afN (a:=a) (b:=a) (s:=1) (lo:=lo) (hi:=hi) (by omega) (by omega) (by omega) (by decide) h1 h2
 have e2:=ajJ (aa0 ha (by decide)) e
 unfold aiB at e2
 rw[aB5] at e2 r
 exact⟨e2,⟨c.1,c.2.1,by have:=c.2.2;omega⟩,r⟩
theorem i2{lo hi a b:Int}(h0:0<=lo)(h1:lo<=a)(h2:a<=b)(h4:b<=hi)(h3:hi<=63):adG lo hi (num a.toNat++45::num b.toNat) (acI a b 1):=by
 have ha:a.toNat<100:=by omega
 have hb:b.toNat<100:=by omega
 have e:=asB (lo:=lo) (hi:=hi) ha hb (by omega) (by omega) (by omega)
 rw[Int.toNat_of_nonneg (by omega),Int.toNat_of_nonneg (by omega)] at e
 have ca:=adC ha
 have cb:=adC hb
 exact⟨ajJ (ac4 (aa0 ha (by decide)) (aa0 hb (by decide)) (by decide)) e,amU ⟨ca.1,ca.2.1,by have:=ca.2.2;omega⟩ ⟨cb.1,cb.2.2⟩ (by decide) (by decide),afN (by omega) (by omega) h2 (by decide) h1 h4⟩
theorem i0{lo hi:Int}(h0:0<=lo)(h1:lo<=hi)(h3:hi<=63):adG lo hi [42] (acI lo hi 1):=
 ⟨ajJ (by decide) apR,by decide,afN h0 h3 h1 (by decide) (Int.le_refl _) (Int.le_refl _)⟩
theorem i3{lo hi s:Int}(h0:0<=lo)(h1:lo<=hi)(h3:hi<=63)(hs:1<=s/\s<=99):adG lo hi ([42]++47::num s.toNat) (acI lo hi s):=by
 have hs':s.toNat<100:=by omega
 have e:=ajM (show 47∉[42] by decide) (apR (lo:=lo) (hi:=hi)) hs' (by omega)
 rw[if_neg (by decide),Int.toNat_of_nonneg (by omega)] at e
 have cs:=adC hs'
 exact⟨e,amU (by decide) ⟨cs.1,cs.2.2⟩ (by decide) (by decide),afN h0 h3 h1 (by omega) (Int.le_refl _) (Int.le_refl _)⟩
theorem i4{lo hi a s:Int}(h0:0<=lo)(h1:lo<=a)(h2:a<=hi)(h3:hi<=63)(hs:1<=s/\s<=99):adG lo hi (num a.toNat++47::num s.toNat) (acI a hi s):=by
 have ha:a.toNat<100:=by omega
 have hs':s.toNat<100:=by omega
 have e1:=asA (lo:=lo) (hi:=hi) ha (by omega) (by omega)
 have e:=ajM (aa0 ha (by decide)) e1 hs' (by omega)
 rw[if_pos (ag2 _ ha).1,Int.toNat_of_nonneg (by omega),Int.toNat_of_nonneg (by omega)] at e
 have ca:=adC ha
 have cs:=adC hs'
 exact⟨e,amU ⟨ca.1,ca.2.1,by have:=ca.2.2;omega⟩ ⟨cs.1,cs.2.2⟩ (by decide) (by decide),afN (by omega) h3 h2 (by omega) h1 (Int.le_refl _)⟩
theorem i5{lo hi a b s:Int}(h0:0<=lo)(h1:lo<=a)(h2:a<=b)(h4:b<=hi)(h3:hi<=63)(hs:1<=s/\s<=99):adG lo hi ((num a.toNat++45::num b.toNat)++47::num s.toNat) (acI a b s):=by
 have ha:a.toNat<100:=by omega
 have hb:b.toNat<100:=by omega
 have hs':s.toNat<100:=by omega
 have e1:=asB (lo:=lo) (hi:=hi) ha hb (by omega) (by omega) (by omega)
 have e:=ajM (ac4 (aa0 ha (by decide)) (aa0 hb (by decide)) (by decide)) e1 hs' (by omega)
 rw[if_neg (by rw[aJO (c:=45) (by simp) (by decide)];exact Bool.false_ne_true),Int.toNat_of_nonneg (by omega),Int.toNat_of_nonneg (by omega),Int.toNat_of_nonneg (by omega)] at e
 have ca:=adC ha
 have cb:=adC hb
 have cs:=adC hs'
 refine⟨e,amU ⟨⟨ac4 ca.1.1 cb.1.1 (by decide),ac4 ca.1.2 cb.1.2 (by decide)⟩,by simp,?_⟩ ⟨cs.1,cs.2.2⟩ (by decide) (by decide),afN (by omega) (by omega) h2 (by omega) h1 h4⟩
 have:=ca.2.2
 have:=cb.2.2
 rw[List.length_append,List.length_cons]
 omega
theorem av5:∀{zs:List Int},zs.Pairwise (·<·)->(∀z∈zs,0<=z)->∀i,0<=abV zs/\tb (abV zs) i=zs.any fun z=>decide (z.toNat=i):=by
 intro zs hp hn i
 have key:∀(n:Nat) (ys:List Int),ys.length=n->ys.Pairwise (·<·)->(∀z∈ys,0<=z)->abV ys=aa3 ys:=by
  intro n
  induction n with
  |zero=>intro ys h _ _;rw[List.length_eq_zero_iff.mp h];rfl
  |succ n ih=>
   intro ys hl hp hn
   rcases List.eq_nil_or_concat ys with rfl | ⟨r,z,rfl⟩
   ·cases hl
   rw[List.concat_eq_append] at hl hp hn ⊢
   have hpa:=List.pairwise_append.mp hp
   have er:=ih r (by rw[List.length_append,List.length_singleton] at hl;omega) hpa.1 fun x hx=>hn x (List.mem_append_left _ hx)
   have hz:=hn z (List.mem_append_right _ (List.mem_singleton.mpr rfl))
   have hb:tb (aa3 r) z.toNat=false:=by
    rw[abH,List.any_eq_false]
    intro x hx
    have h1:=hpa.2.2 x hx z (List.mem_singleton.mpr rfl)
    have h2:=hn x (List.mem_append_left _ hx)
    have:¬x.toNat=z.toNat:=by omega
    simpa using this
   have e1:abV (r++[z])=abV r+1*2^z.toNat:=by unfold abV;rw[List.map_append,List.sum_append];show _+(1*2^z.toNat+0)=_;omega
   have hnn:=abC r
   have hp2:=Int.le_of_lt (abU z.toNat)
   rw[e1,er,ai2]
   refine abE (by omega) (acY hnn (by omega)) fun j=>?_
   have e3:(1*2^z.toNat:Int)=2^z.toNat:=by omega
   have hz0:Builtin.bitAnd (aa3 r) (2^z.toNat)=0:=by
    refine abE (anA hnn hp2) (Int.le_refl 0) fun k=>?_
    rw[ajQ hnn hp2,awO,abL]
    by_cases c:z.toNat=k
    ·subst c;rw[hb];rfl
    ·simp[c]
   have ea:aa3 r+2^z.toNat=Builtin.bitOr (aa3 r) (2^z.toNat):=by rw[bitOr_and,hz0];omega
   rw[e3,ea]
 rw[key _ zs rfl hp hn]
 exact⟨abC _,abH _ _⟩
theorem aeH{zs ns:List Int}(hp:zs.Pairwise (·<·))(hm:∀x,x∈zs↔x∈ns)(hn:∀n∈ns,0<=n):abV zs=aa3 ns:=by
 have h:=av5 hp fun z hz=>hn z ((hm z).mp hz)
 refine abE (h 0).1 (abC _) fun i=>?_
 rw[(h i).2,abH,Bool.eq_iff_iff,List.any_eq_true,List.any_eq_true]
 exact⟨fun ⟨z,hz,e⟩=>⟨z,(hm z).mp hz,e⟩,fun ⟨z,hz,e⟩=>⟨z,(hm z).mpr hz,e⟩⟩
theorem ac7{m:Int}(h:0<=m)(i:Nat):0<=wk7 m/\tb (wk7 m) i=((tb m i||tb m (7+i))&&decide (i<7)):=by
 have h1:(0:Int)<=m / 2^(7:Int).toNat:=Int.ediv_nonneg h (by decide)
 unfold wk7
 refine⟨anA (acY h h1) (by decide),?_⟩
 rw[ajQ (acY h h1) (by decide),ahF h h1,awK h]
 have e:tb 127 i=decide (i<7):=asD 7 i
 rw[e]
 rfl
theorem apB{ms:List Int}(h:∀m∈ms,0<=m):orM ms=0↔∀m∈ms,m=0:=by
 constructor
 ·intro e m hm
  refine abE (h m hm) (Int.le_refl 0) fun i=>?_
  have z:=acB h i
  rw[e,abL] at z
  have:=List.any_eq_false.mp z.symm m hm
  rw[abL]
  simpa using this
 ·intro e
  refine abE (ab0 h) (Int.le_refl 0) fun i=>?_
  rw[acB h,abL,List.any_eq_false]
  intro m hm
  rw[e m hm,abL]
  exact Bool.false_ne_true
theorem avZ{ms:List Int}(h:∀m∈ms,0<=m):wk7 (orM ms)=orM (ms.map wk7):=by
 have h':∀m∈ms.map wk7,0<=m:=fun m hm=>by
  obtain⟨z,hz,rfl⟩:=List.mem_map.mp hm
  exact (ac7 (h z hz) 0).1
 refine abE (ac7 (ab0 h) 0).1 (ab0 h') fun i=>?_
 rw[(ac7 (ab0 h) i).2,acB h,acB h,acB h',List.any_map,Bool.eq_iff_iff]
 simp only[Bool.and_eq_true,Bool.or_eq_true,List.any_eq_true,decide_eq_true_eq,Function.comp]
 constructor
 ·rintro⟨⟨m,hm,e⟩ | ⟨m,hm,e⟩,hi⟩
  ·exact⟨m,hm,by rw[(ac7 (h m hm) i).2,e,decide_eq_true hi];rfl⟩
  ·exact⟨m,hm,by rw[(ac7 (h m hm) i).2,e,decide_eq_true hi,Bool.or_true];rfl⟩
 ·rintro⟨m,hm,e⟩
  rw[(ac7 (h m hm) i).2,Bool.and_eq_true,Bool.or_eq_true,decide_eq_true_eq] at e
  rcases e with ⟨e | e,hi⟩
  ·exact⟨.inl ⟨m,hm,e⟩,hi⟩
  ·exact⟨.inr ⟨m,hm,e⟩,hi⟩
theorem aNH{m:Int}(h0:0<m)(h1:m<=255):wk7 m≠0/\0<=wk7 m/\wk7 m<=127:=by
 have all:∀n:Nat,n<256->0<n->wk7 (n:Int)≠0/\0<=wk7 (n:Int)/\wk7 (n:Int)<=127:=by decide +kernel
 have e:m=((m.toNat:Nat):Int):=by omega
 rw[e]
 exact all m.toNat (by omega) (by omega)
def SpT(b:Bool)(t:List Nat):Mk->Prop
 |.num m=>b=false/\aaH 1 31 t=some m/\0<m
 |.wkd m=>b=true/\∃M,aaH 0 7 t=some M/\(0<M/\M<=255)/\m=wk7 M
 |.nil=>False
 |k=>aaH (if b=true then 0 else 1) (if b=true then 7 else 31) t=none/\rdM b t=some k
theorem ax5:SpT false [76] (.lst 0)/\Cl [76]:=by
 refine⟨⟨?_,?_⟩,by decide⟩<;>decide +kernel
theorem awM:SpT false [76,87] .wrk/\Cl [76,87]:=by
 refine⟨⟨?_,?_⟩,by decide⟩<;>decide +kernel
theorem aLD:∀n:Nat,n<31->1<=n->(aaH 1 31 ([76,45]++num n)=none/\rdM false ([76,45]++num n)=some (.lst n))/\Cl ([76,45]++num n):=by decide +kernel
theorem aFJ:∀n:Nat,n<32->1<=n->(aaH 1 31 (num n++[87])=none/\rdM false (num n++[87])=some (.nea n))/\Cl (num n++[87]):=by decide +kernel
theorem aM6:∀n:Nat,n<8->(aaH 0 7 (num n++[76])=none/\rdM true (num n++[76])=some (.one ((n:Int)%7)))/\Cl (num n++[76]):=by decide +kernel
theorem aO6:∀n:Nat,n<8->∀m:Nat,m<6->1<=m->(aaH 0 7 (num n++[35]++num m)=none/\rdM true (num n++[35]++num m)=some (.nth ((n:Int)%7) m))/\Cl (num n++[35]++num m):=by decide +kernel
theorem aDF{zs ns:List Int}(hp:zs.Pairwise (·<·))(hm:∀x,x∈zs↔x∈ns.map fun d=>d%7)(hn:∀n∈ns,0<=n/\n<=7):abV zs=wk7 (aa3 ns):=by
 rw[aeH hp hm fun n hn'=>by obtain⟨d,_,rfl⟩:=List.mem_map.mp hn';show 0<=d%7;omega]
 refine abE (abC _) (ac7 (abC _) 0).1 fun i=>?_
 rw[(ac7 (abC ns) i).2,abH,abH,abH,Bool.eq_iff_iff]
 simp only[Bool.and_eq_true,Bool.or_eq_true,List.any_eq_true,decide_eq_true_eq,List.mem_map]
 constructor
 ·rintro⟨_,⟨d,hd,rfl⟩,e⟩
  have:=hn d hd
  by_cases c:d=7
  ·exact⟨.inr ⟨d,hd,by omega⟩,by omega⟩
  ·exact⟨.inl ⟨d,hd,by omega⟩,by omega⟩
 ·rintro⟨⟨d,hd,e⟩ | ⟨d,hd,e⟩,hi⟩
  ·have:=hn d hd
   exact⟨d%7,⟨d,hd,rfl⟩,by omega⟩
  ·have:=hn d hd
   exact⟨d%7,⟨d,hd,rfl⟩,by omega⟩
theorem aeJ{ns:List Int}(h:ns≠[])(hn:∀n∈ns,0<=n):0<aa3 ns:=by
 have h0:=abC ns
 rcases Int.lt_or_eq_of_le h0 with h1 | h1
 ·exact h1
 ·cases ns with
  |nil=>exact absurd rfl h
  |cons n r=>
   have z:=abH (n::r) n.toNat
   rw[←h1,abL,List.any_cons] at z
   simp at z
theorem ajA{ns:List Int}{n:Nat}(hn:∀z∈ns,0<=z/\z<(n:Int)):aa3 ns<2^n:=by
 have e:aa3 ns=mk_ (tb (aa3 ns)) n:=by
  refine abE (abC _) (av9 _ _) fun i=>?_
  rw[axP]
  by_cases c:i<n
  ·rw[decide_eq_true c,Bool.true_and]
  ·rw[decide_eq_false c,Bool.false_and,abH,List.any_eq_false]
   intro z hz
   have:=hn z hz
   have:¬z.toNat=i:=by omega
   simpa using this
 rw[e]
 exact aDL _ _
end KM
namespace L2
open PySem PySem.Spec PyProof.Rows PySem.SeqAt
section
variable{X:Cx}
end
end L2
namespace KM
open PySem PySem.Spec PyProof.Rows L2
def TpAt(b:Bool)(H:Hp)(u:Addr)(k:Mk):Prop:=H u=some (.tup k.tup)/\k.sp=true/\k.wk=b/\k.ok
theorem TpAt.keep{b:Bool}{H H':Hp}(s:Keep H H'){u:Addr}{k:Mk}(h:TpAt b H u k):TpAt b H' u k:=⟨s.tup h.1,h.2⟩
theorem Ft.keepT{b:Bool}{H H':Hp}(s:Keep H H'){ps:List Addr}{ks:List Mk}(h:Ft (TpAt b H) ps ks):Ft (TpAt b H') ps ks:=Paired.imp' (fun _ _ z=>z.keep s) h
theorem Ft.okT{b:Bool}{H:Hp}:∀{ps:List Addr} {ks:List Mk},Ft (TpAt b H) ps ks->∀k∈ks,k.sp=true/\k.wk=b/\k.ok
 |_,_,.nil,k,hk=>nomatch hk
 |_,_,.cons r t,k,hk=>by
  rcases List.mem_cons.mp hk with rfl | hk
  ·exact r.2
  ·exact Ft.okT t k hk
def Mk.pl:Mk->Option Int
 |.num m=>some m
 |.wkd m=>some m
 |_=>none
def plK(ks:List Mk):List Int:=ks.filterMap Mk.pl
def otK(ks:List Mk):List Mk:=ks.filter fun k=>k.pl.isNone
def aoC(b:Bool)(M:Int):List Mk:=if M=0 then [] else if b=true then [.wkd M] else [.num M]
def aoS(b:Bool)(ks:List Mk):List Mk:=aoC b (orM (plK ks))++otK ks
theorem aDS{b:Bool}{ks:List Mk}(h:∀k∈ks,k.sp=true/\k.wk=b/\k.ok):∀m∈plK ks,0<=m/\(b=true->m<=127):=by
 intro m hm
 obtain⟨k,hk,e⟩:=List.mem_filterMap.mp hm
 have:=h k hk
 cases k with
 |num z=>cases e;exact⟨this.2.2,fun hb=>by rw[←this.2.1] at hb;cases hb⟩
 |wkd z=>cases e;exact⟨this.2.2.1,fun _=>this.2.2.2⟩
 |lst z=>cases e
 |nea z=>cases e
 |wrk=>cases e
 |nth z y=>cases e
 |one z=>cases e
 |nil=>cases e
theorem avC{ms:List Int}{n:Nat}(h:∀m∈ms,0<=m/\m<2^n):orM ms<2^n:=by
 have h0:∀m∈ms,0<=m:=fun m hm=>(h m hm).1
 have e:orM ms=mk_ (tb (orM ms)) n:=by
  refine abE (ab0 h0) (av9 _ _) fun i=>?_
  rw[axP]
  by_cases c:i<n
  ·rw[decide_eq_true c,Bool.true_and]
  ·rw[decide_eq_false c,Bool.false_and,acB h0,List.any_eq_false]
   intro m hm
   rw[aiX (h m hm).2 (by omega)]
   exact Bool.false_ne_true
 rw[e]
 exact aDL _ _
theorem aAQ{b:Bool}{ks:List Mk}(h:∀k∈ks,k.sp=true/\k.wk=b/\k.ok):∀k∈aoC b (orM (plK ks)),k.sp=true/\k.wk=b/\k.ok:=by
 have hp:=aDS h
 have h0:0<=orM (plK ks):=ab0 fun m hm=>(hp m hm).1
 intro k hk
 unfold aoC at hk
 split at hk
 ·cases hk
 ·split at hk
  ·rename_i hb
   rw[List.mem_singleton.mp hk,hb]
   have e:(2:Int)^7=128:=by decide
   have:=avC (n:=7) (ms:=plK ks) fun m hm=>⟨(hp m hm).1,by have:=(hp m hm).2 hb;omega⟩
   exact⟨rfl,rfl,h0,by omega⟩
  ·rename_i hb
   rw[List.mem_singleton.mp hk]
   exact⟨rfl,by cases b with | true=>exact absurd rfl hb | false=>rfl,h0⟩
abbrev Ws(b:Bool):List (List Nat)->List Mk->Prop:=Paired fun w k=>Cl w/\SpT b w k
def lo_(b:Bool):Int:=if b=true then 0 else 1
def hi_(b:Bool):Int:=if b=true then 7 else 31
theorem ar2(k:Mk)(ks:List Mk):plK (k::ks)=(match k.pl with | some m=>m::plK ks | none=>plK ks)/\otK (k::ks)=(match k.pl with | some _=>otK ks | none=>k::otK ks):=by
 unfold plK otK
 rw[List.filterMap_cons,List.filter_cons]
 cases k.pl<;>exact⟨rfl,rfl⟩
theorem aA3(b:Bool)(lo hi:Int)(w:List Nat)(ws:List (List Nat)):plP lo hi (w::ws)=(match aaH lo hi w with | some m=>m::plP lo hi ws | none=>plP lo hi ws)/\mkP b lo hi (w::ws)=(match aaH lo hi w with | some _=>mkP b lo hi ws | none=>match rdM b w with | some k=>k::mkP b lo hi ws | none=>mkP b lo hi ws):=by
 unfold plP mkP
 rw[List.filterMap_cons,List.filterMap_cons]
 cases aaH lo hi w with
 |some m=>exact⟨rfl,rfl⟩
 |none=>exact⟨rfl,by cases rdM b w<;>rfl⟩
def WsI(b:Bool)(ws:List (List Nat))(ks:List Mk):Prop:=mkP b (lo_ b) (hi_ b) ws=otK ks/\plK ks=(plP (lo_ b) (hi_ b) ws).map (fun m=>if b=true then wk7 m else m)/\(∀m∈plP (lo_ b) (hi_ b) ws,0<m/\(b=true->m<=255))/\∀w∈ws,(aaH (lo_ b) (hi_ b) w).isSome=true∨(rdM b w).isSome=true
theorem awU(b:Bool):∀{ws:List (List Nat)} {ks:List Mk},Ws b ws ks->WsI b ws ks
 |_,_,.nil=>⟨rfl,rfl,fun m hm=>(nomatch hm),fun w hw=>(nomatch hw)⟩
 |w::ws,k::ks,.cons r t=>by
  obtain⟨i1,i2,i3,i4⟩:=awU b t
  have c1:=ar2 k ks
  have c2:=aA3 b (lo_ b) (hi_ b) w ws
  have plain:∀(m M:Int),k.pl=some m->aaH (lo_ b) (hi_ b) w=some M->(m=if b=true then wk7 M else M)->(0<M/\(b=true->M<=255))->WsI b (w::ws) (k::ks):=fun m M e1 e2 e3 e4=>by
   unfold WsI
   rw[e1] at c1
   rw[e2] at c2
   rw[c1.1,c1.2,c2.1,c2.2]
   refine⟨i1,by rw[List.map_cons,←e3,←i2],fun z hz=>?_,fun v hv=>?_⟩
   ·rcases List.mem_cons.mp hz with rfl | hz
    ·exact e4
    ·exact i3 z hz
   ·rcases List.mem_cons.mp hv with rfl | hv
    ·exact .inl (by rw[e2];rfl)
    ·exact i4 v hv
  have mark:k.pl=none->aaH (lo_ b) (hi_ b) w=none->rdM b w=some k->WsI b (w::ws) (k::ks):=fun e1 e2 e3=>by
   unfold WsI
   rw[e1] at c1
   rw[e2,e3] at c2
   rw[c1.1,c1.2,c2.1,c2.2]
   refine⟨by rw[i1],i2,i3,fun v hv=>?_⟩
   rcases List.mem_cons.mp hv with rfl | hv
   ·exact .inr (by rw[e3];rfl)
   ·exact i4 v hv
  cases k with
  |num m=>
   obtain⟨_,hb,hr,h0⟩:=r
   subst hb
   exact plain m m rfl hr rfl ⟨h0,fun z=>nomatch z⟩
  |wkd m=>
   obtain⟨_,hb,M,hr,h0,hm⟩:=r
   subst hb
   exact plain m M rfl hr hm ⟨h0.1,fun _=>h0.2⟩
  |lst z=>exact mark rfl r.2.1 r.2.2
  |nea z=>exact mark rfl r.2.1 r.2.2
  |wrk=>exact mark rfl r.2.1 r.2.2
  |nth z y=>exact mark rfl r.2.1 r.2.2
  |one z=>exact mark rfl r.2.1 r.2.2
  |nil=>exact r.2.elim
theorem aw3{b:Bool}{ws:List (List Nat)}{ks:List Mk}{l:List Nat}(h:Ws b ws ks)(hl:spl 44 l=ws):ai8 b (lo_ b) (hi_ b) l=aoS b ks:=by
 obtain⟨i1,i2,i3,_⟩:=awU b h
 have hz:∀m∈plP (lo_ b) (hi_ b) ws,0<=m:=fun m hm=>Int.le_of_lt (i3 m hm).1
 unfold ai8 aoS
 rw[hl,i1,i2]
 congr 1
 cases b with
 |false=>
  have e:(plP (lo_ false) (hi_ false) ws).map (fun m=>if false=true then wk7 m else m)=plP (lo_ false) (hi_ false) ws:=List.map_id'' (fun _=>rfl) _
  rw[e]
  rfl
 |true=>
  have e:orM ((plP (lo_ true) (hi_ true) ws).map (fun m=>if true=true then wk7 m else m))=wk7 (orM (plP (lo_ true) (hi_ true) ws)):=(avZ hz).symm
  rw[e]
  unfold afA aoC
  by_cases c:orM (plP (lo_ true) (hi_ true) ws)=0
  ·rw[if_pos c,c]
   rfl
  ·have c2:¬wk7 (orM (plP (lo_ true) (hi_ true) ws))=0:=fun z=>c (by
    rw[avZ hz] at z
    have h0:∀m∈(plP (lo_ true) (hi_ true) ws).map wk7,0<=m:=fun m hm=>by
     obtain⟨y,hy,rfl⟩:=List.mem_map.mp hm
     exact (ac7 (hz y hy) 0).1
    rw[apB hz]
    intro m hm
    have:=(apB h0).mp z (wk7 m) (List.mem_map.mpr ⟨m,hm,rfl⟩)
    exact absurd this (aNH (i3 m hm).1 ((i3 m hm).2 rfl)).1)
   rw[if_neg c,if_neg c2]
   rfl
theorem none_of{H H':Hp}(s:Same H H'){p:Addr}(h:H' p=none):H p=none:=by
 cases e:H p with
 |none=>rfl
 |some o=>rw[s _ _ e] at h;cases h
theorem ad7:∀(ws:List (List Nat)),(∀w∈ws,w.length<=8)->(aaT 44 ws).length<=9*ws.length
 |[],_=>Nat.zero_le _
 |[w],h=>by
  have:=h w (List.mem_cons_self ..)
  show w.length<=9
  omega
 |w::v::ws,h=>by
  have ih:=ad7 (v::ws) fun z hz=>h z (List.mem_cons_of_mem _ hz)
  have:=h w (List.mem_cons_self ..)
  show (w++44::aaT 44 (v::ws)).length<=_
  rw[List.length_append,List.length_cons,List.length_cons]
  omega
theorem Ws.cl{b:Bool}:∀{ws:List (List Nat)} {ks:List Mk},Ws b ws ks->∀w∈ws,Cl w
 |_,_,.nil,w,hw=>nomatch hw
 |_,_,.cons r t,w,hw=>by
  rcases List.mem_cons.mp hw with rfl | hw
  ·exact r.1
  ·exact Ws.cl t w hw
theorem aDV{b:Bool}{ws:List (List Nat)}{ks:List Mk}(h:Ws b ws ks)(hne:ws≠[])(hn:ws.length<=20):spl 44 (aaT 44 ws)=ws/\ItemsOk b (lo_ b) (hi_ b) (aaT 44 ws):=by
 have hs:=adV 44 ws hne fun w hw=>(h.cl w hw).1.1
 have hl:=ad7 ws fun w hw=>(h.cl w hw).2.2
 refine⟨hs,by omega,by rw[hs];omega,?_,?_⟩
 ·rw[hs]
  exact (awU b h).2.2.2
 ·rw[hs]
  exact Nat.le_trans (List.length_filterMap_le ..) hn
def PrT(H:Hp)(ts:List Addr)(prs:List (Nat×Nat)):Prop:=Paired (fun (t:Addr) (pr:Nat×Nat)=>H t=some (.tup [.int pr.1,.int pr.2])) ts prs
theorem PrT.keep{H H':Hp}{ts:List Addr}{prs:List (Nat×Nat)}(h:PrT H ts prs)(k:Keep H H'):PrT H' ts prs:=Paired.mapP h fun _ _ z=>k.tup z
theorem Paired.at{α β:Type}{F:α->β->Prop}:∀{l:List α} {r:List β} {i:Nat} {a:α},Paired F l r->l[i]? =some a->∃b,r[i]? =some b/\F a b
 |_,_,_,_,.nil,e=>by simp at e
 |_,_,0,_,.cons h _,e=>by
  have:=Option.some.inj e
  subst this
  exact⟨_,rfl,h⟩
 |_,_,i+1,_,.cons _ t,e=>Paired.at (i:=i) t e
def rt(x:Nat×Nat):List Nat:=if x.1=x.2 then num x.1 else num x.1++45::num x.2
def Dd(b:Bool)(m l f:Int):Int:=if b=true then wkD m l f else ak2 m l
theorem asE{m f:Int}(h:0<=m)(n:Nat):anF m f n=tb m ((f+(1+(n:Int))-1)%7).toNat:=by
 unfold anF
 by_cases c:tb m ((f+(1+(n:Int))-1)%7).toNat=true
 ·rw[c];exact decide_eq_true ((ac9 h _).mpr c)
 ·have c':tb m ((f+(1+(n:Int))-1)%7).toNat=false:=by simpa using c
  rw[c'];exact decide_eq_false fun q=>c ((ac9 h _).mp q)
theorem wkN_mem{m f z:Int}:∀{n:Nat},z∈wkN m f n↔∃j,j<n/\anF m f j=true/\z=1+(j:Int)
 |0=>⟨fun h=>(nomatch h),fun ⟨j,h,_⟩=>absurd h (Nat.not_lt_zero j)⟩
 |n+1=>by
  show z∈wkN m f n++(if anF m f n=true then [1+(n:Int)] else [])↔_
  rw[List.mem_append,wkN_mem]
  constructor
  ·rintro (⟨j,h1,h2,h3⟩ | h)
   ·exact⟨j,Nat.lt_succ_of_lt h1,h2,h3⟩
   ·split at h
    ·rename_i c
     exact⟨n,Nat.lt_succ_self n,c,List.mem_singleton.mp h⟩
    ·cases h
  ·rintro⟨j,h1,h2,h3⟩
   by_cases c:j=n
   ·subst c
    rw[if_pos h2]
    exact .inr (List.mem_singleton.mpr h3)
   ·exact .inl ⟨j,by omega,h2,h3⟩
theorem ax1{m l f:Int}(h0:0<=m)(h1:m<=127)(h:Lf l f)(i:Nat):tb (wkD m l f) i=(decide (1<=i)&&(decide ((i:Int)<=l)&&tb m ((f+(i:Int)-1)%7).toNat)):=by
 have hw:=al7 m (awH h0 h1) l (at0 h.1.1 h.1.2) f (ajP h.2.1 h.2.2)
 obtain⟨_,hp,hn⟩:=am4 hw.2
 rw[hw.1,(av5 hp (fun z hz=>(hn z hz).1) i).2,Bool.eq_iff_iff,List.any_eq_true]
 simp only[Bool.and_eq_true,decide_eq_true_eq]
 have hl:=h.1.1
 constructor
 ·rintro⟨z,hz,e⟩
  obtain⟨j,j1,j2,j3⟩:=wkN_mem.mp hz
  rw[asE h0] at j2
  have:i=1+j:=by omega
  subst this
  exact⟨by omega,by omega,j2⟩
 ·rintro⟨i1,i2,i3⟩
  refine⟨(i:Int),wkN_mem.mpr ⟨i-1,by omega,?_,by omega⟩,by omega⟩
  rw[asE h0,show (1+((i-1:Nat):Int))=(i:Int) by omega]
  exact i3
theorem arL{m l:Int}(h0:0<=m)(hl:28<=l/\l<=31)(i:Nat):tb (ak2 m l) i=(tb m i&&tb (2*2^l.toNat-2) i):=by
 have hp:=abU l.toNat
 exact ajQ h0 (by omega) i
theorem am3{α:Type}(l:List α)(p:α->Bool)(c:Bool):(l.any fun x=>c&&p x)=(c&&l.any p):=by
 induction l with
 |nil=>rw[List.any_nil,List.any_nil,Bool.and_false]
 |cons x r ih=>rw[List.any_cons,List.any_cons,ih,Bool.and_or_distrib_left]
theorem af5{α:Type}{p q:α->Bool}:∀{l:List α},(∀x∈l,p x=q x)->l.any p=l.any q
 |[],_=>rfl
 |x::r,h=>by rw[List.any_cons,List.any_cons,h x (List.mem_cons_self ..),af5 fun y hy=>h y (List.mem_cons_of_mem _ hy)]
theorem aD7{b:Bool}{ms:List Int}{l f:Int}(hm:∀m∈ms,0<=m/\(b=true->m<=127))(h:Lf l f)(i:Nat):tb (Dd b (orM ms) l f) i=ms.any fun m=>tb (Dd b m l f) i:=by
 have h0:∀m∈ms,0<=m:=fun m hz=>(hm m hz).1
 cases b with
 |false=>
  show tb (ak2 (orM ms) l) i=ms.any fun m=>tb (ak2 m l) i
  rw[arL (ab0 h0) h.1,acB h0,Bool.and_comm,←am3]
  exact af5 fun m hz=>by rw[arL (h0 m hz) h.1,Bool.and_comm]
 |true=>
  have e:(2:Int)^7=128:=by decide
  have hM:orM ms<=127:=by
   have:=avC (n:=7) (ms:=ms) fun m hz=>⟨h0 m hz,by have:=(hm m hz).2 rfl;omega⟩
   omega
  show tb (wkD (orM ms) l f) i=ms.any fun m=>tb (wkD m l f) i
  rw[ax1 (ab0 h0) hM h,acB h0,←am3,←am3]
  exact af5 fun m hz=>by rw[ax1 (h0 m hz) ((hm m hz).2 rfl) h]
theorem aEV{b:Bool}{k:Mk}{m:Int}(hp:k.pl=some m)(hw:k.wk=b)(l f:Int):k.due l f=Dd b m l f:=by
 cases k with
 |num z=>cases hp;cases hw;rfl
 |wkd z=>cases hp;cases hw;rfl
 |lst z=>cases hp
 |nea z=>cases hp
 |wrk=>cases hp
 |nth z y=>cases hp
 |one z=>cases hp
 |nil=>cases hp
theorem ak9{b:Bool}(l f:Int)(i:Nat):∀{ks:List Mk},(∀k∈ks,k.wk=b)->(ks.any fun k=>tb (k.due l f) i)=((plK ks).any (fun m=>tb (Dd b m l f) i)||(otK ks).any fun k=>tb (k.due l f) i)
 |[],_=>rfl
 |k::ks,h=>by
  have ih:=ak9 l f i (ks:=ks) fun z hz=>h z (List.mem_cons_of_mem _ hz)
  have c:=ar2 k ks
  have hk:=h k (List.mem_cons_self ..)
  rw[List.any_cons,ih]
  cases e:k.pl with
  |some m=>
   rw[e] at c
   rw[c.1,c.2,List.any_cons,aEV e hk,Bool.or_assoc]
  |none=>
   rw[e] at c
   rw[c.1,c.2,List.any_cons]
   cases tb (k.due l f) i<;>cases (plK ks).any _<;>rfl
theorem ajU{b:Bool}{ks:List Mk}(h:∀k∈ks,k.sp=true/\k.wk=b/\k.ok):∀k∈aoS b ks,k.sp=true/\k.wk=b/\k.ok:=fun k hk=>by
 rcases List.mem_append.mp hk with z | z
 ·exact aAQ h k z
 ·exact h k ((List.mem_filter.mp z).1)
theorem awD{b:Bool}{ks:List Mk}{l f:Int}(h:∀k∈ks,k.sp=true/\k.wk=b/\k.ok)(hlf:Lf l f):orK (aoS b ks) l f=orK ks l f:=by
 refine aI5 hlf (fun k hk=>(ajU h k hk).2.2) (fun k hk=>(h k hk).2.2) fun i=>?_
 have hp:=aDS h
 rw[ak9 l f i fun k hk=>(h k hk).2.1,←aD7 hp hlf i]
 unfold aoS
 rw[List.any_append]
 congr 1
 unfold aoC
 by_cases c:orM (plK ks)=0
 ·rw[if_pos c,c]
  have:=aD7 (b:=b) (ms:=[]) (fun m hm=>nomatch hm) hlf i
  rw[show orM []=0 from rfl] at this
  rw[this]
  rfl
 ·rw[if_neg c]
  cases b with
  |true=>show (tb (wkD _ l f) i||false)=_;rw[Bool.or_false];rfl
  |false=>show (tb (ak2 _ l) i||false)=_;rw[Bool.or_false];rfl
end KM
namespace L2
open PySem PySem.Spec PyProof.Rows
section
variable{X:Cx}{f:Addr}{k k':Nat}{ps:List Str}{sp:Sp}{x y e:Expr}{es:List Expr}{t:TA}{tv:TE}{p pos:Pos}
end
section
variable{X:Cx}{C:Addr}{m:Str}{k k':Nat}{ps:List Str}{sp:Sp}{o:Expr}{ta:TE}{apos pos:Pos}
end
section
variable{X:Cx}{body:List Stmt}{tb:TS}{h:ExceptHandler}{hs:List ExceptHandler}{pos:Pos}
theorem aOP(hb:Ss X.nox body tb):S X (.Try body (h::hs) [] [] pos) tb:=by
 refine⟨fun pins s σ H D I hw=>?_⟩
 refine wpAny_Try_except (wpAny_mono (hb.h pins s σ H D (I.wish _) hw) (fun f s1 q=>?_) fun e s1 hx=>False.elim hx)
 cases f with
 |next=>exact wpAny_execs_nil q.unwish
 |ret v=>exact q.unwish
 |brk=>exact q.unwish
 |cont=>exact q.unwish
end
section
variable{js:List Nat}{σ:St}{tt:TT}{te:TE}{Q:VK}{H1:Hp}
theorem aqB{K K':PySem.W.Frag}{a:Addr}{xs:List V}(R:Addr->Nat->List V->Hp->Prop)(hm:∀D i l H l',R D i l H->R D i l (upd H D (.lst l')))(hS:∀D i l H H',Same H H'->R D i l H->R D i l H')(hn:xs.length<=sizeLine)(h0:∀D,H1 D=none->R D 0 [] H1)(hq:SqL K H1 a xs)
  (hs:∀(i:Nat) (x:V) (l:List V) (D:Addr) (H2:Hp) (E:V->Hp->Prop) (F:Hp->Prop),xs[i]? =some x->R D i l H2->H1 D=none->Same H1 H2->H2 D=some (.lst l)->(∀y H5,Same H2 H5->R D (i+1) (l++[y]) H5->E y H5)->(∀H4,Same H2 H4->R D (i+1) l H4->F H4)->
   tt (some (.int i)::some x::aaV js σ) H2 fun b H4=>if b=true then te (some (.int i)::some x::aaV js σ) H4 E else F H4)
  (hd:∀(D:Addr) (H2:Hp) (l:List V),R D xs.length l H2->H1 D=none->Same H1 H2->H2 D=some (.lst l)->Q (.ref D) H2):
  au7 (Ite K a) 2 js (aAX K' 2 (ar5 (ab3 0) (ar5 (ab3 1) aHH))) σ tt te Q H1:=by
 intro D hD
 refine⟨fun i m H2=>m=xs.length-i/\i<=xs.length/\Same H1 H2/\∃l,H2 D=some (.lst l)/\l.length<=i/\R D i l H2,⟨xs.length,by simp,Nat.zero_le _,aaB hD _,[],aaA,Nat.le_refl _,hm _ _ _ _ _ (h0 D hD)⟩,?_⟩
 rintro i m H2 ⟨rfl,hi,s2,l,h2,hll,hR⟩
 by_cases hlt:i<xs.length
 ·refine .inr ⟨⟨xs,xs[i],s2.seq hq,by simp[hlt]⟩,fun v H3 y τ hτ=>?_⟩
  obtain⟨T,rfl,hT,ev⟩:=y
  obtain⟨x,hx,rfl⟩:=ev xs (s2.seq hq)
  have sT:=aaB hT (.tup [.int i,x])
  have s3:=s2.trans sT
  have h3:=sT _ _ h2
  obtain⟨t0,t1,rfl⟩:∃t0 t1,τ=[t0,t1]:=by
   match τ,hτ with
   |[a,b],_=>exact⟨a,b,rfl⟩
  have h:=hs i x l D _ (fun y H5=>∃ys,H5 D=some (.lst ys)/\ys.length<sizeLine/\∃m',m'<xs.length-i/\(m'=xs.length-(i+1)/\i+1<=xs.length/\Same H1 (upd H5 D (.lst (ys++[y])))/\∃l,(upd H5 D (.lst (ys++[y]))) D=some (.lst l)/\l.length<=i+1/\R D (i+1) l (upd H5 D (.lst (ys++[y]))))) (fun H4=>∃m',m'<xs.length-i/\(m'=xs.length-(i+1)/\i+1<=xs.length/\Same H1 H4/\∃l,H4 D=some (.lst l)/\l.length<=i+1/\R D (i+1) l H4)) hx (hS _ _ _ _ _ sT hR) hD s3 h3
   (fun z H5 s5 r5=>by
    refine⟨l,s5 _ _ h3,Nat.lt_of_le_of_lt hll (Nat.lt_of_lt_of_le hlt hn),xs.length-(i+1),by omega,rfl,hlt,fun b o hb=>?_,l++[z],aaA,by rw[List.length_append,List.length_singleton];omega,hm _ _ _ _ _ r5⟩
    rw[aaG (aaK hb hD)]
    exact s5 _ _ (s3 _ _ hb))
   (fun H4 s4 r4=>⟨xs.length-(i+1),by omega,rfl,hlt,s3.trans s4,l,s4 _ _ h3,by omega,r4⟩)
  exact⟨T,[.int i,x],rfl,SqT.of aaA,rfl,.int i,[x],rfl,x,[],rfl,rfl,⟨[some (.int i),some x],rfl,rfl⟩,h⟩
 ·have e:i=xs.length:=by omega
  subst e
  exact .inl ⟨⟨xs,s2.seq hq,rfl⟩,hd D H2 l hR hD s2 h2⟩
end
theorem aOK{X:Cx}:Cl1 X (.builtin "divmod") (fun xs H Q=>∃i j,xs=[.int i,.int j]/\ayD i j/\∀p,H p=none->Q (.ref p) (upd H p (.tup [.int (i / j),.int (i%j)]))):=⟨ao2⟩
def KD(K:PySem.W.Frag)(a:Addr)(kvs:List (Int×V)):Prop:=
 ∃(es:Array DictEntry) (ep:Nat) (vs:List (Key×Value)),K.lookup a=some ⟨.type "dict",none,.dict es ep,#[]⟩/\KV (kvs.map fun x=>((Sum.inl x.1:Key),x.2)) vs/\(vs.map (·.1)).Nodup/\∀(P:Program) (w:World),KeysOf (ab5 P w) es/\PySem.Pairs (ab5 P w) es.toList vs
def aGG(K:PySem.W.Frag)(td ty:TE):TE:=fun σ H Q=>td σ H fun x H1=>ty σ H1 fun y H2=>∃a kvs k v,x=.ref a/\KD K a kvs/\y=.int k/\kvs.lookup k=some v/\Q v H2
theorem aDR{k:Int}{v:V}:∀{kvs:List (Int×V)} {vs:List (Key×Value)},KV (kvs.map fun x=>((Sum.inl x.1:Key),x.2)) vs->kvs.lookup k=some v->∃w',valueAt vs (Sum.inl k:Key)=some w'/\RelV v w'
 |[],_,_,h=>by cases h
 |(k0,v0)::r,_,.cons (b:=(k1,w1)) h t,hl=>by
  obtain⟨e1,e2⟩:=h
  have e1:(Sum.inl k0:Key)=k1:=e1
  subst e1
  rw[List.lookup_cons] at hl
  unfold valueAt
  by_cases c:k=k0
  ·subst c
   rw[show (k==k)=true from beq_self_eq_true k] at hl
   cases hl
   refine⟨w1,?_,e2⟩
   rw[List.find?_cons_of_pos (by simp)]
   rfl
  ·rw[show (k==k0)=false from beq_false_of_ne c] at hl
   obtain⟨w',h1,h2⟩:=aDR t hl
   refine⟨w',?_,h2⟩
   rw[List.find?_cons_of_neg (by simp;exact fun z=>c z.symm)]
   exact h1
section
variable{X:Cx}{o i:Expr}{td ty:TE}{pos:Pos}
theorem eDgK(ho:E X o td)(hi:E X i ty)(hs:aLS i:=by intro _ _;rfl):E X (.Subscript o i pos) (aGG X.K td ty):=by
 refine⟨fun pins s σ H Q I h=>?_⟩
 refine aBZ PySem.F.slot_dict_getitem.lookup hs (thn (ho.h pins s σ H _ I h) fun u s1 ⟨x,H1,I1,rx,q1⟩=>thn (hi.h pins s1 σ H1 _ I1 q1) fun iv s2 ⟨y,H2,I2,ry,a,kvs,k,v,ex,hk,ey,l,q2⟩=>?_)
 subst ex
 subst ey
 obtain rfl:u=Value.ref a:=rx
 obtain⟨es,ep,vs,lk,kv,nd,kp⟩:=hk
 obtain⟨k1,k2⟩:=kp X.prog X.w
 have dd:s2.heap.DictOf (ab5 X.prog X.w) a vs:=⟨_,es,ep,I2.kIn _ _ lk,⟨rfl,rfl,rfl⟩,rfl,k1,k2,nd⟩
 obtain⟨w',hw,rw'⟩:=aDR kv l
 exact⟨dd.typeIs,wpAny_getItem_of (aDZ (k:=Sum.inl k) ry) dd.mapOf hw ⟨v,H2,I2.tok _,rw',q2⟩⟩
end
end L2
namespace KM
open PySem PySem.Spec PyProof.Rows L2
theorem aNR{a:Int}(h:0<=a):Builtin.bitOr a 0=a:=by
 refine abE (acY h (Int.le_refl 0)) h fun i=>?_
 rw[ahF h (Int.le_refl 0),abL,Bool.or_false]
theorem as6{a b c:Int}(ha:0<=a)(hb:0<=b)(hc:0<=c):Builtin.bitOr (Builtin.bitOr a b) c=Builtin.bitOr a (Builtin.bitOr b c):=by
 refine abE (acY (acY ha hb) hc) (acY ha (acY hb hc)) fun i=>?_
 rw[ahF (acY ha hb) hc,ahF ha hb,ahF ha (acY hb hc),ahF hb hc,Bool.or_assoc]
theorem awP{ks:List Mk}{l f:Int}(h:Lf l f)(o:∀k∈ks,k.ok):0<=orK ks l f:=ab0 fun m hm=>by
 obtain⟨k,hk,rfl⟩:=List.mem_map.mp hm
 exact ap9 (o k hk) h
theorem ao0{ks:List Mk}{i:Nat}{k:Mk}{a l f:Int}(h:Lf l f)(o:∀k∈ks,k.ok)(ek:ks[i]? =some k)(ha:0<=a):Builtin.bitOr (Builtin.bitOr a (orK (ks.take i) l f)) (k.due l f)=Builtin.bitOr a (orK (ks.take (i+1)) l f):=by
 have ot:∀z∈ks.take i,z.ok:=fun z hz=>o z (List.mem_of_mem_take hz)
 rw[as6 ha (awP h ot) (ap9 (o k (List.mem_of_getElem? ek)) h),List.take_succ,ek]
 congr 1
 exact (an9 _ _ _ _).symm
def DV(c:Cs)(H:Hp)(v:V):Option (List Mk)->Prop
 |none=>v=.non
 |some ks=>∃p qs,v=.ref p/\H p=some (.lst (qs.map V.ref))/\Ft (MkAt c H) qs ks/\∀k∈ks,k.ok
theorem DV.keep{c:Cs}{H H':Hp}(s:Same H H'){v:V}:∀{ko:Option (List Mk)},DV c H v ko->DV c H' v ko
 |none,h=>h
 |some _,⟨p,qs,e,h1,h2,h3⟩=>⟨p,qs,e,s _ _ h1,h2.keepM s.keep,h3⟩
def orO(ko:Option (List Mk))(a l f:Int):Int:=match ko with
 |none=>a
 |some ks=>Builtin.bitOr a (orK ks l f)
def abJ(kd kw:Option (List Mk))(l f:Int):Int:=if kd.isNone=true/\kw.isNone=true then 2*2^l.toNat-2 else orO kw (orO kd 0 l f) l f
def DT(b:Bool)(t:List Nat)(ko:Option (List Mk)):Prop:=(32∉t/\t≠[])/\ItemsOk b (lo_ b) (hi_ b) t/\match ko with
 |none=>t=[42]
 |some ks=>t≠[42]/\(∀k∈ks,k.sp=true/\k.wk=b/\k.ok)/\ai8 b (lo_ b) (hi_ b) t=aoS b ks
def gO(b:Bool):Option (List Mk)->Option (List Mk)
 |none=>none
 |some ks=>some (aoS b ks)
theorem aD0{b:Bool}{t:List Nat}{ko:Option (List Mk)}(h:DT b t ko){a l f:Int}(hl:Lf l f):orO (gO b ko) a l f=orO ko a l f:=by
 cases ko with
 |none=>rfl
 |some ks=>
  show Builtin.bitOr a (orK (aoS b ks) l f)=Builtin.bitOr a (orK ks l f)
  rw[awD h.2.2.2.1 hl]
theorem asM(b:Bool)(ko:Option (List Mk)):(gO b ko).isNone=ko.isNone:=by cases ko<;>rfl
theorem aAA{t u:List Nat}{kd kw:Option (List Mk)}(hd:DT false t kd)(hw:DT true u kw){l f:Int}(hl:Lf l f):abJ (gO false kd) (gO true kw) l f=abJ kd kw l f:=by
 unfold abJ
 rw[asM,asM,aD0 hd hl,aD0 hw hl]
theorem agY{c d:Nat}(hcd:c≠d):∀{ws:List (List Nat)},(∀w∈ws,c∉w)->c∉aaT d ws
 |[],_=>List.not_mem_nil
 |[w],h=>h w (List.mem_cons_self ..)
 |w::v::ws,h=>by
  show c∉w++d::aaT d (v::ws)
  rw[List.mem_append,List.mem_cons,not_or,not_or]
  exact⟨h w (List.mem_cons_self ..),hcd,agY hcd fun z hz=>h z (List.mem_cons_of_mem _ hz)⟩
theorem arZ:∀{ws:List (List Nat)},ws≠[]->(∀w∈ws,w≠[])->∀d,aaT d ws≠[]
 |[],h,_,_=>absurd rfl h
 |[w],_,h,_=>h w (List.mem_cons_self ..)
 |w::v::ws,_,h,d=>fun e=>by
  have e:w++d::aaT d (v::ws)=[]:=e
  rw[List.append_eq_nil_iff] at e
  cases e.2
theorem aL0{b:Bool}{ws:List (List Nat)}{ks:List Mk}(h:Ws b ws ks)(hne:ws≠[])(hn:ws.length<=20)(hs:∀w∈ws,w≠[42])(ho:∀k∈ks,k.sp=true/\k.wk=b/\k.ok):DT b (aaT 44 ws) (some ks):=by
 have w:=aDV h hne hn
 refine⟨⟨agY (by decide) fun x hx=>(h.cl x hx).1.2,arZ hne (fun x hx=>(h.cl x hx).2.1) 44⟩,w.2,fun e=>?_,ho,aw3 h w.1⟩
 have e1:=w.1
 rw[e] at e1
 have e2:spl 44 [42]=[[42]]:=rfl
 rw[e2] at e1
 exact hs [42] (by rw[←e1];exact List.mem_singleton.mpr rfl) rfl
theorem aAD(b:Bool):DT b [42] none:=by
 refine⟨by decide,?_,rfl⟩
 have c:Cl [42]/\SpT b [42] (if b=true then .wkd 127 else .num 4294967294):=by
  cases b with
  |true=>exact⟨by decide,rfl,255,by decide +kernel,by decide,by decide +kernel⟩
  |false=>exact⟨by decide,rfl,by decide +kernel,by decide⟩
 exact (aDV (.cons c .nil:Ws b [[42]] _) (List.cons_ne_nil _ _) (by show 1<=20;decide)).2
structure FT(lo hi:Int)(t:List Nat)(m:Int):Prop where
 ok:asH lo hi t
 len:t.length<=300
 is:orM (adD lo hi t)=m
 sp:32∉t
 ne:t≠[]
 nn:0<=m
theorem apU{lo hi:Int}{ws:List (List Nat)}{nss:List (List Int)}(h:Paired (adG lo hi) ws nss)(hne:ws≠[])(hn:ws.length<=20):FT lo hi (aaT 44 ws) (aa3 nss.flatten):=by
 have all:∀{ws:List (List Nat)} {nss:List (List Int)},Paired (adG lo hi) ws nss->(∀w∈ws,Cl w/\(aaH lo hi w).isSome=true)/\(ws.map fun w=>(aaH lo hi w).getD 0)=nss.map aa3:=by
  intro ws nss h
  induction h with
  |nil=>exact⟨fun w hw=>(nomatch hw),rfl⟩
  |cons r t ih=>
   refine⟨fun w hw=>?_,?_⟩
   ·rcases List.mem_cons.mp hw with z | z
    ·subst z;exact⟨r.2.1,by rw[r.1];rfl⟩
    ·exact ih.1 w z
   ·rw[List.map_cons,List.map_cons,ih.2,r.1];rfl
 have a:=all h
 have hs:=adV 44 ws hne fun w hw=>(a.1 w hw).1.1.1
 have hl:=ad7 ws fun w hw=>(a.1 w hw).1.2.2
 refine⟨⟨by rw[hs];omega,by rw[hs];exact fun w hw=>(a.1 w hw).2⟩,by omega,?_,agY (by decide) fun x hx=>(a.1 x hx).1.1.2,arZ hne (fun x hx=>(a.1 x hx).1.2.1) 44,abC _⟩
 unfold adD
 rw[hs,a.2]
 have nn:∀m∈nss.map aa3,0<=m:=fun m hm=>by
  obtain⟨z,_,rfl⟩:=List.mem_map.mp hm
  exact abC _
 refine abE (ab0 nn) (abC _) fun i=>?_
 rw[acB nn,abH,List.any_map,List.any_flatten]
 exact af5 fun z _=>abH z i
end KM
namespace K44
open PySem PySem.Spec PyProof.Rows L2 KM
def top(i:Nat):Stmt:=PySem.Challenge.pw_fivefields_k44_shut_by.main.body.getD i (.Pass ⟨0,0,0,0⟩)
abbrev alX:Stmt:=top 12
abbrev acG:Stmt:=top 13
abbrev aeY:Stmt:=top 14
abbrev alQ:Stmt:=top 15
abbrev ajR:Stmt:=top 7
abbrev alF:Stmt:=top 16
abbrev apV:Stmt:=top 17
abbrev ak8:Stmt:=top 18
abbrev al0:Stmt:=top 19
abbrev alI:Stmt:=top 20
abbrev ahT:Stmt:=top 80
abbrev alT:Stmt:=top 81
abbrev aoU:Stmt:=top 75
abbrev ae5:Stmt:=top 23
abbrev agF:Stmt:=top 24
abbrev aD2:Stmt:=top 26
abbrev alL:Stmt:=top 36
abbrev af2:Stmt:=top 37
abbrev ajX:Stmt:=top 38
abbrev ae8:Stmt:=top 39
abbrev ajC:Stmt:=top 40
abbrev aeB:Stmt:=top 41
abbrev ahE:Stmt:=top 42
abbrev af1:Stmt:=top 43
abbrev agD:Stmt:=top 53
abbrev ajE:Stmt:=top 54
abbrev adU:Stmt:=top 55
abbrev ahL:Stmt:=top 56
abbrev ahS:Stmt:=aaY (top 57) 0
abbrev acC:Stmt:=aaY (top 58) 0
abbrev ad9:Stmt:=aaY (top 58) 1
abbrev aaX:Stmt:=aaY (top 59) 0
abbrev ahW:Stmt:=aaY (top 59) 1
abbrev adP:Stmt:=aaY (top 60) 0
abbrev ahQ:Stmt:=aaY (top 60) 1
abbrev adI:Stmt:=aaY (top 61) 0
abbrev ab1:Stmt:=aaY (top 62) 0
abbrev adK:Stmt:=aaY (top 62) 1
abbrev adX:Stmt:=aaY (top 63) 0
abbrev akH:Stmt:=aaY (top 63) 1
abbrev ab7:Stmt:=aaY (top 64) 0
abbrev aeC:Stmt:=aaY (top 64) 1
abbrev aiY:Stmt:=top 65
abbrev adO:Stmt:=top 66
abbrev aeG:Stmt:=top 67
abbrev ab2:Stmt:=top 68
abbrev agC:Stmt:=top 69
abbrev ahI:Stmt:=top 70
abbrev adH:Stmt:=top 71
abbrev ajF:Stmt:=top 82
abbrev ai6:Stmt:=top 92
abbrev alD:Stmt:=top 93
abbrev adZ:Stmt:=aaY (top 94) 0
abbrev ae3:Stmt:=aaY (top 94) 5
abbrev ahP:Stmt:=top 95
abbrev alG:Stmt:=top 96
abbrev ajH:Stmt:=top 97
abbrev aeD:Stmt:=top 99
abbrev ag8:Stmt:=top 100
abbrev ae2:Stmt:=top 101
abbrev ahX:Stmt:=top 103
abbrev ahU:Stmt:=top 104
abbrev ag9:Stmt:=top 105
abbrev adY:Stmt:=top 106
abbrev ag6:Stmt:=top 107
abbrev alU:Stmt:=top 108
abbrev ag7:Stmt:=top 109
abbrev afT:Stmt:=top 110
abbrev acT:Stmt:=top 111
abbrev adW:Stmt:=top 113
abbrev ajN:Stmt:=top 112
abbrev afV:Stmt:=top 120
abbrev ae0:Stmt:=aaY (top 94) 8
abbrev ahO:Stmt:=top 114
abbrev ae9:Stmt:=top 115
abbrev ag5:Stmt:=top 116
abbrev ahH:Stmt:=top 117
abbrev afR:Stmt:=top 122
abbrev ahM:Stmt:=top 119
abbrev afC:Stmt:=top 118
abbrev ahB:Stmt:=top 121
abbrev alK:Stmt:=top 123
def aa6(y:Int):Bool:=decide (y%4=0)&&(!decide (y%100=0)||decide (y%400=0))
def mb(y s:Int):Int:=(y+s-1) / s
def db(y:Int):Int:=365*y+(mb y 4-mb y 100+mb y 400)
def lasts:List Int:=[31,28,31,30,31,30,31,31,30,31,30,31]
def ab8(y:Int):Int:=if aa6 y=true then 1 else 0
def aaE(y m:Int):Int:=if m=2 then 28+ab8 y else lasts.getD (m-1).toNat 0
theorem abN(y:Int):aa6 y=true↔(y%4=0/\(y%100≠0∨y%400=0)):=by
 unfold aa6
 simp
theorem agB{y:Int}(h:y%4=0/\(y%100≠0∨y%400=0)):aa6 y=true:=(abN y).mpr h
theorem afX{y:Int}(h:¬(y%4=0/\(y%100≠0∨y%400=0))):aa6 y=false:=by
 cases e:aa6 y
 ·rfl
 ·exact absurd ((abN y).mp e) h
theorem ajG(y:Int):0<=ab8 y/\ab8 y<=1:=by
 unfold ab8
 split<;>omega
theorem alM(y:Int):db y=365*y+((y+3) / 4-(y+99) / 100+(y+399) / 400):=by
 have e1:y+4-1=y+3:=by omega
 have e2:y+100-1=y+99:=by omega
 have e3:y+400-1=y+399:=by omega
 unfold db mb
 rw[e1,e2,e3]
theorem af8(y:Int):db (y+1)-db y=365+ab8 y:=by
 unfold ab8
 by_cases h:aa6 y=true
 ·rw[if_pos h]
  rw[abN] at h
  unfold db mb
  omega
 ·rw[if_neg h]
  rw[abN] at h
  unfold db mb
  omega
theorem ai4{m:Int}(h1:1<=m)(h2:m<=12):atI (lasts.map V.int) (m-1)=some (V.int (lasts.getD (m-1).toNat 0)):=by
 have hk:(m-1).toNat<12:=by omega
 have e:m-1=(((m-1).toNat:Nat):Int):=by omega
 rw[e]
 refine af7 ?_
 rw[Int.toNat_natCast]
 generalize (m-1).toNat=j at hk
 match j,hk with
 |0,_ | 1,_ | 2,_ | 3,_ | 4,_ | 5,_ | 6,_ | 7,_ | 8,_ | 9,_ | 10,_ | 11,_=>rfl
 |n+12,h=>exact absurd h (by omega)
def ahN(y:Int):Nat->Int
 |0=>0
 |n+1=>ahN y n+aaE y ((n:Int)+1)
def ahead(y m:Int):Int:=ahN y (m-1).toNat
theorem afP{y m:Int}(h:1<=m):ahead y (m+1)=ahead y m+aaE y m:=by
 have e:(m+1-1).toNat=(m-1).toNat+1:=by omega
 have e2:(((m-1).toNat:Nat):Int)+1=m:=by omega
 unfold ahead
 rw[e]
 show ahN y (m-1).toNat+aaE y (((m-1).toNat:Int)+1)=_
 rw[e2]
theorem aj0(y:Int):ahead y 13=365+ab8 y:=by
 show 0+aaE y 1+aaE y 2+aaE y 3+aaE y 4+aaE y 5+aaE y 6+aaE y 7+aaE y 8+aaE y 9+aaE y 10+aaE y 11+aaE y 12=_
 have e2:aaE y 2=28+ab8 y:=rfl
 rw[e2]
 show 0+31+(28+ab8 y)+31+30+31+30+31+31+30+31+30+31=_
 omega
theorem alY{y m:Int}(h1:1<=m)(h2:m<=12):28<=aaE y m:=by
 have hl:=ajG y
 unfold aaE
 split
 ·omega
 ·have hk:(m-1).toNat<12:=by omega
  generalize (m-1).toNat=j at hk
  match j,hk with
  |0,_ | 1,_ | 2,_ | 3,_ | 4,_ | 5,_ | 6,_ | 7,_ | 8,_ | 9,_ | 10,_ | 11,_=>decide
  |n+12,h=>exact absurd h (by omega)
theorem arO(y:Int):∀n:Nat,((List.range n).map fun i:Nat=>aaE y (1+(i:Int))).sum=ahN y n
 |0=>rfl
 |n+1=>by
  rw[alH,List.sum_append,arO y n]
  show ahN y n+(aaE y (1+(n:Int))+0)=ahN y n+aaE y ((n:Int)+1)
  rw[Int.add_comm 1 (n:Int),Int.add_zero]
def ai0(k:Int):List Int:=if k / 7=12 then [2,29,k%7] else [k / 7+1,aaE 1 (k / 7+1),k%7]
def mnA(k:Int):Int:=if k / 7=12 then 2 else k / 7+1
def lnA(k:Int):Int:=if k / 7=12 then 29 else aaE 1 (k / 7+1)
theorem aoV(k:Int):ai0 k=[mnA k,lnA k,k%7]:=by
 unfold ai0 mnA lnA
 split<;>rfl
theorem aB8:∀n:Nat,n<91->(1<=mnA n/\mnA n<=12)/\(28<=lnA n/\lnA n<=31):=by decide +kernel
theorem arX{k:Int}(h0:0<=k)(h1:k<=90):(1<=mnA k/\mnA k<=12)/\Lf (lnA k) (k%7):=by
 have z:=aB8 k.toNat (by omega)
 rw[Int.toNat_of_nonneg h0] at z
 exact⟨z.1,z.2,by omega,by omega⟩
def DVn(c:Cs)(D:Addr)(H:Hp)(v:V)(ko:Option (List Mk)):Prop:=DV c H v ko/\∀p,v=.ref p->p≠D
theorem DVn.keep{c:Cs}{D:Addr}{H H':Hp}(s:Same H H'){v:V}{ko:Option (List Mk)}(h:DVn c D H v ko):DVn c D H' v ko:=⟨h.1.keep s,h.2⟩
theorem DVn.upd{c:Cs}{D:Addr}{H:Hp}{l':List V}{v:V}:∀{ko:Option (List Mk)},DVn c D H v ko->(∃l,H D=some (.lst l))->DVn c D (upd H D (.lst l')) v ko
 |none,h,_=>h
 |some ks,⟨⟨p,qs,e,h1,h2,h3⟩,hn⟩,⟨l,hl⟩=>⟨⟨p,qs,e,by rw[aaG (hn p e)];exact h1,h2.keepM (ad5 hl),h3⟩,hn⟩
def RR(c:Cs)(m0 m1 m3:Int)(kd kw:Option (List Mk))(D:Addr)(i:Nat)(l:List V)(H:Hp):Prop:=match i with
 |0=>l=[]
 |1=>l=[.int m0]
 |2=>l=[.int m0,.int m1]
 |3=>∃dv,l=[.int m0,.int m1,dv]/\DVn c D H dv kd
 |4=>∃dv,l=[.int m0,.int m1,dv,.int m3]/\DVn c D H dv kd
 |_=>∃dv wv,l=[.int m0,.int m1,dv,.int m3,wv]/\DVn c D H dv kd/\DVn c D H wv kw
theorem RR.keep{c:Cs}{m0 m1 m3:Int}{kd kw:Option (List Mk)}{D:Addr}{l:List V}{H H':Hp}(s:Same H H'):∀{i:Nat},RR c m0 m1 m3 kd kw D i l H->RR c m0 m1 m3 kd kw D i l H'
 |0,h=>h
 |1,h=>h
 |2,h=>h
 |3,⟨dv,e,h⟩=>⟨dv,e,h.keep s⟩
 |4,⟨dv,e,h⟩=>⟨dv,e,h.keep s⟩
 |_+5,⟨dv,wv,e,h,h'⟩=>⟨dv,wv,e,h.keep s,h'.keep s⟩
theorem RR.upd{c:Cs}{m0 m1 m3:Int}{kd kw:Option (List Mk)}{D:Addr}{l l':List V}{H:Hp}(hl:∃l,H D=some (.lst l)):∀{i:Nat},RR c m0 m1 m3 kd kw D i l H->RR c m0 m1 m3 kd kw D i l (upd H D (.lst l'))
 |0,h=>h
 |1,h=>h
 |2,h=>h
 |3,⟨dv,e,h⟩=>⟨dv,e,h.upd hl⟩
 |4,⟨dv,e,h⟩=>⟨dv,e,h.upd hl⟩
 |_+5,⟨dv,wv,e,h,h'⟩=>⟨dv,wv,e,h.upd hl,h'.upd hl⟩
theorem ay3{ws:List (List Nat)}(h:∀w∈ws,w≠[]):inV (.str (Tx [])) (ws.map fun q=>V.str (Tx q))=false:=by
 unfold inV
 rw[List.any_map,List.any_eq_false]
 intro w hw hc
 have e:Tx w=Tx []:=beq_iff_eq.mp (show (Tx w==Tx [])=true from hc)
 exact h w hw (by have:=congrArg (fun z=>z.cps.toList) e;simpa [Tx] using this)
def acR(m0 m1:Int)(dv:V)(m3:Int)(wv:V)(tm:Int):List (Str×V):=aaO "time_mask" (.int tm) (aaO "weekday_marks" wv (aaO "month_mask" (.int m3) (aaO "day_marks" dv (aaO "hour_mask" (.int m1) (aaO "minute_mask" (.int m0) [])))))
theorem ac3(m0 m1:Int)(dv:V)(m3:Int)(wv:V)(tm:Int):(acR m0 m1 dv m3 wv tm).lookup ("minute_mask":Str)=some (.int m0):=by
 unfold acR
 rw[aaD,if_neg (by decide +kernel),aaD,if_neg (by decide +kernel),aaD,if_neg (by decide +kernel),aaD,if_neg (by decide +kernel),aaD,if_neg (by decide +kernel),aaD,if_pos rfl]
theorem ad2(m0 m1:Int)(dv:V)(m3:Int)(wv:V)(tm:Int):(acR m0 m1 dv m3 wv tm).lookup ("hour_mask":Str)=some (.int m1):=by
 unfold acR
 rw[aaD,if_neg (by decide +kernel),aaD,if_neg (by decide +kernel),aaD,if_neg (by decide +kernel),aaD,if_neg (by decide +kernel),aaD,if_pos rfl]
theorem akI(m0 m1:Int)(dv:V)(m3:Int)(wv:V)(tm:Int):(acR m0 m1 dv m3 wv tm).lookup ("day_marks":Str)=some (dv):=by
 unfold acR
 rw[aaD,if_neg (by decide +kernel),aaD,if_neg (by decide +kernel),aaD,if_neg (by decide +kernel),aaD,if_pos rfl]
theorem adM(m0 m1:Int)(dv:V)(m3:Int)(wv:V)(tm:Int):(acR m0 m1 dv m3 wv tm).lookup ("month_mask":Str)=some (.int m3):=by
 unfold acR
 rw[aaD,if_neg (by decide +kernel),aaD,if_neg (by decide +kernel),aaD,if_pos rfl]
theorem afG(m0 m1:Int)(dv:V)(m3:Int)(wv:V)(tm:Int):(acR m0 m1 dv m3 wv tm).lookup ("weekday_marks":Str)=some (wv):=by
 unfold acR
 rw[aaD,if_neg (by decide +kernel),aaD,if_pos rfl]
theorem aiA(m0 m1:Int)(dv:V)(m3:Int)(wv:V)(tm:Int):(acR m0 m1 dv m3 wv tm).lookup ("days_in":Str)=none:=by
 unfold acR
 rw[aaD,if_neg (by decide +kernel),aaD,if_neg (by decide +kernel),aaD,if_neg (by decide +kernel),aaD,if_neg (by decide +kernel),aaD,if_neg (by decide +kernel),aaD,if_neg (by decide +kernel)]
 rfl
theorem aiJ(m0 m1:Int)(dv:V)(m3:Int)(wv:V)(tm:Int):(acR m0 m1 dv m3 wv tm).lookup ("shut_by":Str)=none:=by
 unfold acR
 rw[aaD,if_neg (by decide +kernel),aaD,if_neg (by decide +kernel),aaD,if_neg (by decide +kernel),aaD,if_neg (by decide +kernel),aaD,if_neg (by decide +kernel),aaD,if_neg (by decide +kernel)]
 rfl
def SV(b:Bool)(H:Hp)(v:V):Option (List Mk)->Prop
 |none=>v=.non
 |some ks=>∃p us,v=.ref p/\H p=some (.lst (us.map V.ref))/\Ft (TpAt b H) us ks
theorem SV.keep{b:Bool}{H H':Hp}(s:Same H H'){v:V}:∀{ko:Option (List Mk)},SV b H v ko->SV b H' v ko
 |none,h=>h
 |some _,⟨p,us,e,h1,h2⟩=>⟨p,us,e,s _ _ h1,h2.keepT s.keep⟩
theorem apG{t:List Nat}(h:42∉t):t≠[42]:=fun e=>h (by rw[e];exact List.mem_singleton.mpr rfl)
theorem n42{n:Nat}(h:n<100):42∉num n:=aa0 h (by decide)
theorem c42{a b:List Nat}(h1:42∉a)(h2:42∉b):42∉a++b:=fun h=>(List.mem_append.mp h).elim h1 h2
theorem aw4{b:Bool}:∀{ws:List (List Nat)} {ks:List Mk} {t:List Nat} {k:Mk},Ws b ws ks->Cl t/\SpT b t k->Ws b (ws++[t]) (ks++[k])
 |_,_,_,_,.nil,h=>.cons h .nil
 |_,_,_,_,.cons r t,h=>.cons r (aw4 t h)
theorem ac2{lo hi:Int}:∀{ws:List (List Nat)} {nss:List (List Int)},Paired (adG lo hi) ws nss->(∀w∈ws,Cl w)/\(∀n∈nss.flatten,lo<=n/\n<=hi)/\nss.flatten.length<=64*ws.length
 |_,_,.nil=>⟨fun w hw=>(nomatch hw),fun n hn=>(nomatch hn),Nat.le_refl _⟩
 |w::ws,ns::nss,.cons r t=>by
  obtain⟨h1,h2,h3⟩:=ac2 t
  refine⟨fun v hv=>?_,fun n hn=>?_,?_⟩
  ·rcases List.mem_cons.mp hv with z | z
   ·subst z;exact r.2.1
   ·exact h1 v z
  ·rw[List.flatten_cons] at hn
   exact (List.mem_append.mp hn).elim (r.2.2.1 n) (h2 n)
  ·rw[List.flatten_cons,List.length_append,List.length_cons]
   have:=r.2.2.2.2
   omega
theorem ayT{lo hi:Int}:∀{ws:List (List Nat)} {nss:List (List Int)},Paired (adG lo hi) ws nss->ws≠[]->nss.flatten≠[]
 |_,_,.nil,h=>absurd rfl h
 |_,_,.cons r _,_=>fun e=>r.2.2.2.1 (by rw[List.flatten_cons,List.append_eq_nil_iff] at e;exact e.1)
theorem ahG{α β:Type}{F:α->β->Prop}:∀{l:List α} {r:List β} {a:α} {b:β},Paired F l r->F a b->Paired F (l++[a]) (r++[b])
 |_,_,_,_,.nil,h=>.cons h .nil
 |_,_,_,_,.cons x t,h=>.cons x (ahG t h)
theorem aqM{b:Bool}{ko:Option (List Mk)}{a l f:Int}(h:Lf l f)(o:∀ks,ko=some ks->∀k∈ks,k.ok)(ha:0<=a):0<=orO ko a l f:=by
 cases ko with
 |none=>exact ha
 |some ks=>exact acY ha (awP h (o ks rfl))
theorem iteB{c:Bool}{A B:Prop}(hB:B)(f:B->c=true->A):if c=true then A else B:=by
 cases c
 ·exact aaU hB
 ·exact aa8 (f hB rfl)
theorem afL{m:Int}(h:0<=m)(k:Nat):Builtin.bitAnd (m / 2^k) 1=0↔tb m k=false:=by
 have hb:=ac9 h k
 have h0:(0:Int)<=m / 2^k:=Int.ediv_nonneg h (Int.le_of_lt (abU k))
 have e:Builtin.bitAnd (m / 2^k) 1=0∨Builtin.bitAnd (m / 2^k) 1=1:=by
  have n1:=anA h0 (show (0:Int)<=1 by decide)
  by_cases c:tb m k=true
  ·exact .inr (hb.mpr c)
  ·left
   refine abE n1 (Int.le_refl 0) fun i=>?_
   rw[ajQ h0 (by decide),abL]
   cases i with
   |zero=>
    have:tb (m / 2^k) 0=tb m k:=by
     have:=awK (m:=m) (k:=k) h 0
     simpa using this
    rw[this,show tb m k=false by simpa using c];rfl
   |succ i=>
    have:tb 1 (i+1)=false:=aiX (n:=1) (by decide) (by omega)
    rw[this,Bool.and_false]
 constructor
 ·intro z
  cases c:tb m k
  ·rfl
  ·rw[hb.mpr c] at z;cases z
 ·intro z
  rcases e with e | e
  ·exact e
  ·rw[hb.mp e] at z;cases z
def tmF(h m:Int):Int:=orM ((apT h).map fun z=>m*2^(60*z).toNat)
theorem ar9{a b:Int}(h:a+1<=b):db (a+1)<=db b:=by rw[alM,alM];omega
theorem av2{q z:Int}(h:0<=z):db (q*400+z)<=146097*q+366*z:=by rw[alM];omega
def OkD(y m k:Int):Prop:=(1<=m/\m<=12)/\1<=k/\k<=aaE y m
def acJ(y m k:Int):Int:=db y+ahead y m+k-1
theorem avN(y:Int):∀(n d:Nat),n+d<=12->ahN y n<=ahN y (n+d)
 |_,0,_=>Int.le_refl _
 |n,d+1,h=>by
  have h1:=avN y n d (by omega)
  have h2:28<=aaE y (((n+d:Nat):Int)+1):=alY (by omega) (by omega)
  show ahN y n<=ahN y (n+d)+aaE y (((n+d:Nat):Int)+1)
  omega
theorem af9{y m n:Int}(h1:1<=m)(h2:m<=n)(h3:n<=13):ahead y m<=ahead y n:=by
 have e:(n-1).toNat=(m-1).toNat+(n-m).toNat:=by omega
 unfold ahead
 rw[e]
 exact avN y _ _ (by omega)
theorem au9{y m k:Int}(h:OkD y m k):db y<=acJ y m k/\acJ y m k<db (y+1)/\acJ y m k<db y+ahead y (m+1):=by
 obtain⟨⟨h1,h2⟩,h3,h4⟩:=h
 have a1:=afP (y:=y) h1
 have a2:ahead y (m+1)<=ahead y 13:=af9 (by omega) (by omega) (by omega)
 have a3:=aj0 y
 have a4:=af8 y
 have a5:ahead y 1<=ahead y m:=af9 (by omega) h1 (by omega)
 have a6:ahead y 1=0:=rfl
 unfold acJ
 omega
theorem aB7{y m k y' m' k':Int}(h:OkD y m k)(h':OkD y' m' k')(e:acJ y m k=acJ y' m' k'):y=y'/\m=m'/\k=k':=by
 have b:=au9 h
 have b':=au9 h'
 have ey:y=y':=by
  rcases Int.lt_trichotomy y y' with z | z | z
  ·have:=ar9 (a:=y) (b:=y') (by omega)
   omega
  ·exact z
  ·have:=ar9 (a:=y') (b:=y) (by omega)
   omega
 subst ey
 have em:m=m':=by
  rcases Int.lt_trichotomy m m' with z | z | z
  ·have:=af9 (y:=y) (m:=m+1) (n:=m') (by have:=h.1.1;omega) (by omega) (by have:=h'.1.2;omega)
   have q1:=h'.2.1
   have q2:acJ y m' k'=db y+ahead y m'+k'-1:=rfl
   omega
  ·exact z
  ·have:=af9 (y:=y) (m:=m'+1) (n:=m) (by have:=h'.1.1;omega) (by omega) (by have:=h.1.2;omega)
   have q1:=h.2.1
   have q2:acJ y m k=db y+ahead y m+k-1:=rfl
   omega
 subst em
 unfold acJ at e
 exact⟨rfl,rfl,by omega⟩
def plc(y m:Int):Int:=if m=2/\aa6 y=true then 12 else m-1
def kindOf(y m:Int):Int:=7*plc y m+(db y+ahead y m+6)%7
theorem aw9{y m:Int}(h1:1<=m)(h2:m<=12):0<=plc y m/\plc y m<=12:=by
 unfold plc
 split<;>omega
theorem asL{y m:Int}(h1:1<=m)(h2:m<=12):0<=kindOf y m/\kindOf y m<=90:=by
 have:=aw9 (y:=y) h1 h2
 unfold kindOf
 omega
theorem ak7{y m:Int}(h:¬m=2):aaE y m=lasts.getD (m-1).toNat 0:=by unfold aaE;rw[if_neg h]
theorem at7{y m:Int}(h1:1<=m)(h2:m<=12):ai0 (kindOf y m)=[m,aaE y m,kindOf y m%7]:=by
 have hp:=aw9 (y:=y) h1 h2
 have e:kindOf y m / 7=plc y m:=by unfold kindOf;omega
 unfold ai0
 rw[e]
 by_cases c:m=2/\aa6 y=true
 ·have ep:plc y m=12:=by unfold plc;rw[if_pos c]
  have el:aaE y m=29:=by unfold aaE ab8;rw[if_pos c.1,if_pos c.2];rfl
  rw[ep,if_pos rfl,el,c.1]
 ·have ep:plc y m=m-1:=by unfold plc;rw[if_neg c]
  rw[ep,if_neg (by omega)]
  have e1:m-1+1=m:=by omega
  rw[e1]
  have el:aaE 1 m=aaE y m:=by
   by_cases c2:m=2
   ·have hl:¬aa6 y=true:=fun z=>c ⟨c2,z⟩
    unfold aaE ab8
    rw[if_pos c2,if_pos c2,if_neg hl]
    rfl
   ·rw[ak7 c2,ak7 c2]
  rw[el]
theorem alZ{y m:Int}(h1:1<=m)(h2:m<=12):mnA (kindOf y m)=m/\lnA (kindOf y m)=aaE y m:=by
 have e:=at7 (y:=y) h1 h2
 rw[aoV] at e
 injection e with e1 e
 injection e with e2 e
 exact⟨e1,e2⟩
theorem atM{y m:Int}(h1:1<=m)(h2:m<=12):28<=aaE y m/\aaE y m<=31:=by
 have e:=alZ (y:=y) h1 h2
 have k:=asL (y:=y) h1 h2
 rw[←e.2]
 exact (arX k.1 k.2).2.1
theorem awE(y r:Int):aa6 (y+400*r)=aa6 y:=by
 rw[Bool.eq_iff_iff,abN,abN]
 omega
theorem aoN(y r m:Int):aaE (y+400*r) m=aaE y m:=by
 unfold aaE ab8
 rw[awE]
theorem arY(y r:Int):∀n,ahN (y+400*r) n=ahN y n
 |0=>rfl
 |n+1=>by
  show ahN (y+400*r) n+aaE (y+400*r) ((n:Int)+1)=ahN y n+aaE y ((n:Int)+1)
  rw[arY y r n,aoN]
theorem aKE(y r:Int):db (y+400*r)=db y+146097*r:=by rw[alM,alM];omega
theorem ayE{y m k d r x:Int}(h:OkD y m k)(e:acJ y m k=x)(ed:x+146097*r=d):OkD (y+400*r) m k/\acJ (y+400*r) m k=d:=by
 refine⟨⟨h.1,h.2.1,by rw[aoN];exact h.2.2⟩,?_⟩
 have a:ahead (y+400*r) m=ahead y m:=arY y r _
 unfold acJ at e ⊢
 rw[aKE,a]
 omega
def shK(m0 m1 m3:Int)(kd kw:Option (List Mk))(d r y m k:Int):V:=
 if tb m3 m.toNat=false then .str (Tx [109,111,110,116,104]) else if tb (abJ kd kw (aaE y m) ((d-k+1+6)%7)) k.toNat=false then .str (Tx [100,97,121])
 else if tb m1 (r / 60).toNat=false then .str (Tx [104,111,117,114]) else if tb m0 (r%60).toNat=false then .str (Tx [109,105,110,117,116,101]) else .non
section
variable{m0 m1 m3:Int}{kd kw:Option (List Mk)}{d r y m k:Int}
theorem sh1(h:tb m3 m.toNat=false):shK m0 m1 m3 kd kw d r y m k=.str (Tx [109,111,110,116,104]):=if_pos h
theorem sh2(h1:tb m3 m.toNat=true)(h:tb (abJ kd kw (aaE y m) ((d-k+1+6)%7)) k.toNat=false):shK m0 m1 m3 kd kw d r y m k=.str (Tx [100,97,121]):=by
 unfold shK
 rw[if_neg (by rw[h1];decide),if_pos h]
theorem sh3(h1:tb m3 m.toNat=true)(h2:tb (abJ kd kw (aaE y m) ((d-k+1+6)%7)) k.toNat=true)(h:tb m1 (r / 60).toNat=false):shK m0 m1 m3 kd kw d r y m k=.str (Tx [104,111,117,114]):=by
 unfold shK
 rw[if_neg (by rw[h1];decide),if_neg (by rw[h2];decide),if_pos h]
theorem sh4(h1:tb m3 m.toNat=true)(h2:tb (abJ kd kw (aaE y m) ((d-k+1+6)%7)) k.toNat=true)(h3:tb m1 (r / 60).toNat=true)(h:tb m0 (r%60).toNat=false):shK m0 m1 m3 kd kw d r y m k=.str (Tx [109,105,110,117,116,101]):=by
 unfold shK
 rw[if_neg (by rw[h1];decide),if_neg (by rw[h2];decide),if_neg (by rw[h3];decide),if_pos h]
theorem sh5(h1:tb m3 m.toNat=true)(h2:tb (abJ kd kw (aaE y m) ((d-k+1+6)%7)) k.toNat=true)(h3:tb m1 (r / 60).toNat=true)(h:tb m0 (r%60).toNat=true):shK m0 m1 m3 kd kw d r y m k=.non:=by
 unfold shK
 rw[if_neg (by rw[h1];decide),if_neg (by rw[h2];decide),if_neg (by rw[h3];decide),if_neg (by rw[h];decide)]
theorem aBX(hk:OkD y m k)(e:acJ y m k=d):kindOf y m%7=(d-k+1+6)%7:=by
 unfold kindOf
 unfold acJ at e
 omega
theorem arU(hk:OkD y m k):Lf (aaE y m) ((d-k+1+6)%7):=⟨atM hk.1.1 hk.1.2,by omega,by omega⟩
end
theorem ayA{m0 m1 m3 mo y m k y' m' k':Int}{kd kw:Option (List Mk)}{t u:List Nat}(hd:DT false t kd)(hw:DT true u kw)(h:OkD y m k)(h':OkD y' m' k')(e:acJ y m k=mo / 1440)(e':acJ y' m' k'=mo / 1440):
  shK m0 m1 m3 (gO false kd) (gO true kw) (mo / 1440) (mo%1440) y m k=shK m0 m1 m3 kd kw (mo / 1440) (mo%1440) y' m' k':=by
 obtain⟨rfl,rfl,rfl⟩:=aB7 h h' (e.trans e'.symm)
 unfold shK
 rw[aAA hd hw (arU h)]
theorem aOG{b:Bool}(h:¬b=false):b=true:=by simpa using h
theorem ar3{m:Int}{k:Nat}(h:0<=m)(c:¬Builtin.bitAnd (m / 2^k) 1=0):tb m k=true:=aOG fun z=>c ((afL h k).mpr z)
theorem apE{kd kw:Option (List Mk)}{l f:Int}(h:Lf l f)(od:∀ks,kd=some ks->∀k∈ks,k.ok)(ow:∀ks,kw=some ks->∀k∈ks,k.ok):0<=abJ kd kw l f:=by
 unfold abJ
 split
 ·have:=abU l.toNat
  have:(2:Int)^l.toNat ≥ 1:=by omega
  omega
 ·exact aqM (b:=true) h ow (aqM (b:=false) h od (Int.le_refl 0))
theorem aDM{c:Cs}{H:Hp}{v:V}:∀{ko:Option (List Mk)},DV c H v ko->∀ks,ko=some ks->∀k∈ks,k.ok
 |some _,⟨_,_,_,_,_,h⟩,_,rfl=>h
theorem aD5{b:Bool}{H:Hp}{v:V}:∀{ko:Option (List Mk)},SV b H v ko->∀ks,ko=some ks->∀k∈ks,k.ok
 |some _,⟨_,_,_,_,f⟩,_,rfl=>fun k hk=>(f.okT k hk).2.2
theorem aeN{zs:List Int}{i:Int}(h0:0<=i)(h1:i<zs.length):∃z,atI (zs.map V.int) i=some (V.int z):=by
 have hk:i.toNat<zs.length:=by omega
 have e:i=((i.toNat:Nat):Int):=by omega
 rw[e]
 exact⟨zs[i.toNat],af7 (by rw[List.getElem?_map,List.getElem?_eq_getElem hk];rfl)⟩
theorem arR(a b:Int)(c:Bool):∃z,atI [V.int a,V.int b] (if c=true then 1 else 0)=some (V.int z):=by
 cases c
 ·exact⟨a,rfl⟩
 ·exact⟨b,rfl⟩
theorem aJD(m0 m1 m3:Int)(kd kw:Option (List Mk))(d r y m k:Int):shK m0 m1 m3 kd kw d r y m k=.non∨∃t,shK m0 m1 m3 kd kw d r y m k=.str (Tx t):=by
 unfold shK
 split
 ·exact .inr ⟨_,rfl⟩
 split
 ·exact .inr ⟨_,rfl⟩
 split
 ·exact .inr ⟨_,rfl⟩
 split
 ·exact .inr ⟨_,rfl⟩
 exact .inl rfl
def aqO(K:PySem.W.Frag):Sp:=fun vs H Q _=>∃y:Int,vs=[.int y]/\Q (.bl (aa6 y)) H
def aeR(K:PySem.W.Frag):Sp:=fun vs H Q _=>∃y z:Int,vs=[.int y,.int z]/\(0<z/\z<1073741824)/\Q (.int (mb y z)) H
def ai5(K:PySem.W.Frag):Sp:=fun vs H Q _=>∃y:Int,vs=[.int y]/\Q (.int (db y)) H
def aqG(K:PySem.W.Frag):Sp:=fun vs H Q _=>∃y m:Int,vs=[.int y,.int m]/\(1<=m/\m<=12)/\Q (.int (aaE y m)) H
def aoL(K:PySem.W.Frag):Sp:=fun vs H Q _=>∃i:Int,vs=[.int i]/\Q (.bl true) H
def aqH(K:PySem.W.Frag):Sp:=fun vs H Q _=>∃y m k:Int,vs=[.int y,.int m,.int k]/\((1<=m/\m<=12)/\1<=k/\k<=aaE y m)/\Q (.bl true) H
def asT(K:PySem.W.Frag):Sp:=fun vs H Q _=>∃y m k:Int,vs=[.int y,.int m,.int k]/\((1<=m/\m<=12)/\1<=k/\k<=aaE y m)/\∀H',Same H H'->Q (.int (db y+ahead y m+k-1)) H'
def aq3(K:PySem.W.Frag):Sp:=fun vs H Q _=>∃d:Int,vs=[.int d]/\∀y:Int,db y<=d->d<db (y+1)->Q (.int y) H
def arH(K:PySem.W.Frag):Sp:=fun vs H Q _=>∃d:Int,vs=[.int d]/\∀(y m k:Int) (p:Addr) (H':Hp),OkD y m k->acJ y m k=d->Same H H'->H' p=some (.tup [.int y,.int m,.int k])->Q (.ref p) H'
def aqT(K:PySem.W.Frag):Sp:=fun vs H Q _=>∃d:Int,vs=[.int d]/\Q (.int ((d+6)%7)) H
def al1(K:PySem.W.Frag):Sp:=fun vs H Q _=>∃y m d:Int,vs=[.int y,.int m,.int d]/\Q (.int (7*plc y m+(d+6)%7)) H
def aqA(K:PySem.W.Frag):Sp:=fun vs H Q _=>∃y m:Int,vs=[.int y,.int m]/\(1<=m/\m<=12)/\∀H':Hp,Same H H'->Q (.int (kindOf y m)) H'
def atC(K:PySem.W.Frag):Sp:=fun vs H Q _=>∃mo:Int,vs=[.int mo]/\∀(p:Addr) (H':Hp),Same H H'->H' p=some (.tup [.int (mo / 1440),.int (mo%1440 / 60),.int (mo%1440%60)])->Q (.ref p) H'
def aj1(K:PySem.W.Frag):Sp:=fun vs H Q _=>∃l:List Nat,vs=[.str (Tx l)]/\l.length<=2000/\∀H',Same H H'->Q (.bl (al8 l)) H'
def akP(K:PySem.W.Frag):Sp:=fun vs H Q _=>∃l:List Nat,vs=[.str (Tx l)]/\l.length<=2000/\∀H',Same H H'->Q (.bl (isW l)) H'
def aHW(K:PySem.W.Frag):Sp:=fun vs H Q _=>∃m n:Int,vs=[.int m,.int n]/\(0<=m/\0<=n)/\Q (.bl (tb m n.toNat)) H
def ap5(K:PySem.W.Frag):Sp:=fun vs H Q _=>∃(a:Addr) (zs:List Int),vs=[.ref a]/\SqL K H a (zs.map V.int)/\(∀z∈zs,0<=z/\z<=100000)/\Q (.int (aa3 zs)) H
def ak1(K:PySem.W.Frag):Sp:=fun vs H Q _=>∃m:Int,vs=[.int m]/\(0<=m/\Builtin.Int.intBits m<=100000)/\∀(p:Addr) (H':Hp),Same H H'->H' p=some (.lst ((apT m).map V.int))->Q (.ref p) H'
def ao8(K:PySem.W.Frag):Sp:=fun vs H Q _=>∃a b s:Int,vs=[.int a,.int b,.int s]/\(0<=a/\a<=1000)/\(-1<=b/\b<=1000)/\(0<s/\s<=1000)/\∀H',Same H H'->Q (.int (aiB a b s)) H'
def aiZ(K:PySem.W.Frag):Sp:=fun vs H Q _=>∃(l:List Nat) (lo hi:Int),vs=[.str (Tx l),.int lo,.int hi]/\l.length<=600/\∀H',Same H H'->Q (oV (aaP lo hi l)) H'
def aoI(K:PySem.W.Frag):Sp:=fun vs H Q _=>∃(l:List Nat) (lo hi:Int),vs=[.str (Tx l),.int lo,.int hi]/\l.length<=500/\∀(r:V) (H':Hp),Same H H'->RunV H' r (aaR lo hi l)->Q r H'
def ahY(K:PySem.W.Frag):Sp:=fun vs H Q _=>∃(r s:List Nat) (lo hi:Int),vs=[.str (Tx r),.str (Tx s),.int lo,.int hi]/\r.length<=400/\s.length<=400/\(0<=lo/\lo<=hi/\hi<=1000)/\∀H',Same H H'->Q (oV (abD lo hi r s)) H'
def al5(K:PySem.W.Frag):Sp:=fun vs H Q _=>∃(l:List Nat) (lo hi:Int),vs=[.str (Tx l),.int lo,.int hi]/\l.length<=300/\(0<=lo/\lo<=hi/\hi<=1000)/\∀H',Same H H'->Q (oV (aaH lo hi l)) H'
def akO(K:PySem.W.Frag):Sp:=fun vs H Q _=>∃(l:List Nat) (lo hi:Int),vs=[.str (Tx l),.int lo,.int hi]/\l.length<=300/\(0<=lo/\lo<=hi/\hi<=1000)/\asH lo hi l/\∀H',Same H H'->Q (.int (orM (adD lo hi l))) H'
def akK(K:PySem.W.Frag):Sp:=fun vs H Q _=>∃d f:Int,vs=[.int d,.int f]/\Q (.int ((f+d-1)%7)) H
def apA(K:PySem.W.Frag):Sp:=fun vs H Q _=>∃l:Int,vs=[.int l]/\(28<=l/\l<=31)/\Q (.int (2*2^l.toNat-2)) H
def aiE(K:PySem.W.Frag):Sp:=fun vs H Q _=>∃d l f:Int,vs=[.int d,.int l,.int f]/\Q (.int (nw d l f)) H
def amV(K:PySem.W.Frag):Sp:=fun vs H Q _=>∃w f:Int,vs=[.int w,.int f]/\Q (.int (1+(w-f)%7)) H
def amE(K:PySem.W.Frag)(C:Addr):Sp:=fun vs H Q _=>∃(p:Addr) (l f:Int),vs=[.ref p,.int l,.int f]/\Q (.int 0) H
def aeW(K:PySem.W.Frag)(C:Addr):Sp:=fun vs H Q _=>∃(p dx:Addr) (m:Int),vs=[.ref p,.int m]/\H p=some (.ins C dx [])/\Q .non (upd H p (.ins C dx [("mask",.int m)]))
def aiM(K:PySem.W.Frag)(C:Addr):Sp:=fun vs H Q _=>∃(p dx:Addr) (m l f:Int),vs=[.ref p,.int l,.int f]/\H p=some (.ins C dx [("mask",.int m)])/\Lf l f/\Q (.int (ak2 m l)) H
def agS(K:PySem.W.Frag)(C:Addr):Sp:=fun vs H Q _=>∃(p dx:Addr) (m:Int),vs=[.ref p,.int m]/\H p=some (.ins C dx [])/\Q .non (upd H p (.ins C dx [("back",.int m)]))
def am5(K:PySem.W.Frag)(C:Addr):Sp:=fun vs H Q _=>∃(p dx:Addr) (b l f:Int),vs=[.ref p,.int l,.int f]/\H p=some (.ins C dx [("back",.int b)])/\(0<=b/\b<=30)/\Lf l f/\Q (.int (ak4 b l)) H
def agJ(K:PySem.W.Frag)(C:Addr):Sp:=fun vs H Q _=>∃(p dx:Addr) (m:Int),vs=[.ref p,.int m]/\H p=some (.ins C dx [])/\Q .non (upd H p (.ins C dx [("day",.int m)]))
def amZ(K:PySem.W.Frag)(C:Addr):Sp:=fun vs H Q _=>∃(p dx:Addr) (d l f:Int),vs=[.ref p,.int l,.int f]/\H p=some (.ins C dx [("day",.int d)])/\Ok3 d l f/\Q (.int (agU d l f)) H
def agN(K:PySem.W.Frag)(C:Addr):Sp:=fun vs H Q _=>∃(p dx:Addr) (l f:Int),vs=[.ref p,.int l,.int f]/\H p=some (.ins C dx [])/\Ok3 l l f/\Q (.int (1*2^(nw l l f).toNat)) H
def adT(K:PySem.W.Frag)(C:Addr):Sp:=fun vs H Q _=>∃(p dx:Addr) (m:Int),vs=[.ref p,.int m]/\H p=some (.ins C dx [])/\Q .non (upd H p (.ins C dx [("mask",.int m)]))
def agM(K:PySem.W.Frag)(C:Addr):Sp:=fun vs H Q _=>∃(p dx:Addr) (m l f:Int),vs=[.ref p,.int l,.int f]/\H p=some (.ins C dx [("mask",.int m)])/\(0<=m/\m<=127)/\Lf l f/\Q (.int (wkD m l f)) H
def ah5(K:PySem.W.Frag)(C:Addr):Sp:=fun vs H Q _=>∃(p dx:Addr) (w m:Int),vs=[.ref p,.int w,.int m]/\H p=some (.ins C dx [])/\Q .non (upd (upd H p (.ins C dx (aaO "weekday" (.int w) []))) p (.ins C dx (an0 w m)))
def apQ(K:PySem.W.Frag)(C:Addr):Sp:=fun vs H Q _=>∃(p dx:Addr) (w m l f:Int),vs=[.ref p,.int l,.int f]/\H p=some (.ins C dx (an0 w m))/\(0<=w/\w<=6)/\(1<=m/\m<=5)/\Lf l f/\Q (.int (amB w m l f)) H
def aeV(K:PySem.W.Frag)(C:Addr):Sp:=fun vs H Q _=>∃(p dx:Addr) (m:Int),vs=[.ref p,.int m]/\H p=some (.ins C dx [])/\Q .non (upd H p (.ins C dx [("weekday",.int m)]))
def aiL(K:PySem.W.Frag)(C:Addr):Sp:=fun vs H Q _=>∃(p dx:Addr) (w l f:Int),vs=[.ref p,.int l,.int f]/\H p=some (.ins C dx [("weekday",.int w)])/\(0<=w/\w<=6)/\Lf l f/\Q (.int (aED w l f)) H
def ao7(K:PySem.W.Frag)(C_Numbers:Addr)(C_Last:Addr)(C_Near:Addr)(C_LastWork:Addr)(C_Weekdays:Addr)(C_Nth:Addr)(C_LastOne:Addr)(C_Mark:Addr):Sp:=fun vs H Q _=>∃(b:Addr) (ps:List Addr) (ks:List Mk) (l f:Int),vs=[.ref b,.int l,.int f]/\SqL K H b (ps.map V.ref)/\Ft (MkAt (⟨C_Numbers,C_Last,C_Near,C_LastWork,C_Weekdays,C_Nth,C_LastOne,C_Mark⟩:Cs) H) ps ks/\(∀k∈ks,k.ok)/\Lf l f/\Q (.int (orK ks l f)) H
def agK(K:PySem.W.Frag)(C_Numbers:Addr)(C_Last:Addr)(C_Near:Addr)(C_LastWork:Addr)(C_Weekdays:Addr)(C_Nth:Addr)(C_LastOne:Addr)(C_Mark:Addr):Sp:=fun vs H Q _=>∃t:List Nat,vs=[.str (Tx t)]/\t.length<=300/\∀(v:V) (H':Hp),Same H H'->MkV (⟨C_Numbers,C_Last,C_Near,C_LastWork,C_Weekdays,C_Nth,C_LastOne,C_Mark⟩:Cs) H' v (acV t)->Q v H'
def aiK(K:PySem.W.Frag):Sp:=fun vs H Q _=>∃t:List Nat,vs=[.str (Tx t)]/\t.length<=300/\∀H',Same H H'->Q (oV (wdN t)) H'
def ad8(K:PySem.W.Frag)(C_Numbers:Addr)(C_Last:Addr)(C_Near:Addr)(C_LastWork:Addr)(C_Weekdays:Addr)(C_Nth:Addr)(C_LastOne:Addr)(C_Mark:Addr):Sp:=fun vs H Q _=>∃t:List Nat,vs=[.str (Tx t)]/\t.length<=300/\∀(v:V) (H':Hp),Same H H'->MkV (⟨C_Numbers,C_Last,C_Near,C_LastWork,C_Weekdays,C_Nth,C_LastOne,C_Mark⟩:Cs) H' v (anZ t)->Q v H'
def ak3(K:PySem.W.Frag)(C_Numbers:Addr)(C_Last:Addr)(C_Near:Addr)(C_LastWork:Addr)(C_Weekdays:Addr)(C_Nth:Addr)(C_LastOne:Addr)(C_Mark:Addr)(C_read_day_mark:Addr)(C_read_weekday_mark:Addr):Sp:=fun vs H Q _=>∃(l:List Nat) (lo hi:Int) (wk:Bool),vs=[.str (Tx l),.int lo,.int hi,.ref (if wk=true then C_read_weekday_mark else C_read_day_mark)]/\(0<=lo/\lo<=hi/\hi<=1000)/\ItemsOk wk lo hi l/\∀(p m:Addr) (qs:List Addr) (H':Hp),H m=none->Same H H'->H' p=some (.tup [.int (orM (plP lo hi (spl 44 l))),.ref m])->H' m=some (.lst (qs.map V.ref))->Ft (MkAt (⟨C_Numbers,C_Last,C_Near,C_LastWork,C_Weekdays,C_Nth,C_LastOne,C_Mark⟩:Cs) H') qs (mkP wk lo hi (spl 44 l))->Q (.ref p) H'
def anM(K:PySem.W.Frag)(C_Numbers:Addr)(C_Last:Addr)(C_Near:Addr)(C_LastWork:Addr)(C_Weekdays:Addr)(C_Nth:Addr)(C_LastOne:Addr)(C_Mark:Addr):Sp:=fun vs H Q _=>∃l:List Nat,vs=[.str (Tx l)]/\ItemsOk false 1 31 l/\(l=[42]->∀H',Same H H'->Q .non H')/\(l≠[42]->∀(m:Addr) (qs:List Addr) (H':Hp),H m=none->Same H H'->H' m=some (.lst (qs.map V.ref))->Ft (MkAt (⟨C_Numbers,C_Last,C_Near,C_LastWork,C_Weekdays,C_Nth,C_LastOne,C_Mark⟩:Cs) H') qs (ai8 false 1 31 l)->Q (.ref m) H')
def agZ(K:PySem.W.Frag)(C_Numbers:Addr)(C_Last:Addr)(C_Near:Addr)(C_LastWork:Addr)(C_Weekdays:Addr)(C_Nth:Addr)(C_LastOne:Addr)(C_Mark:Addr):Sp:=fun vs H Q _=>∃l:List Nat,vs=[.str (Tx l)]/\ItemsOk true 0 7 l/\(l=[42]->∀H',Same H H'->Q .non H')/\(l≠[42]->∀(m:Addr) (qs:List Addr) (H':Hp),H m=none->Same H H'->H' m=some (.lst (qs.map V.ref))->Ft (MkAt (⟨C_Numbers,C_Last,C_Near,C_LastWork,C_Weekdays,C_Nth,C_LastOne,C_Mark⟩:Cs) H') qs (ai8 true 0 7 l)->Q (.ref m) H')
def aoR(K:PySem.W.Frag):Sp:=fun vs H Q _=>∃k:Int,vs=[.int k]/\(0<=k/\k<=90)/\∀(p:Addr) (H':Hp),Same H H'->H' p=some (.tup ((ai0 k).map V.int))->Q (.ref p) H'
def an8(K:PySem.W.Frag):Sp:=fun vs H Q _=>∃h m:Int,vs=[.int h,.int m]/\(0<=h/\h<2^24)/\(0<=m/\m<2^60)/\∀(t:Int) (H':Hp),t=tmF h m->Same H H'->Q (.int t) H'
def aqN(K:PySem.W.Frag)(C_Numbers:Addr)(C_Last:Addr)(C_Near:Addr)(C_LastWork:Addr)(C_Weekdays:Addr)(C_Nth:Addr)(C_LastOne:Addr)(C_Mark:Addr):Sp:=fun vs H Q _=>∃(dv wv:V) (kd kw:Option (List Mk)) (l f:Int),vs=[dv,wv,.int l,.int f]/\DV (⟨C_Numbers,C_Last,C_Near,C_LastWork,C_Weekdays,C_Nth,C_LastOne,C_Mark⟩:Cs) H dv kd/\DV (⟨C_Numbers,C_Last,C_Near,C_LastWork,C_Weekdays,C_Nth,C_LastOne,C_Mark⟩:Cs) H wv kw/\Lf l f/\∀H',Same H H'->Q (.int (abJ kd kw l f)) H'
def aiN(K:PySem.W.Frag)(C:Addr):Sp:=fun vs H Q _=>∃(p dx fa:Addr) (m0 m1 m3:Int) (dv wv:V),vs=[.ref p,.ref fa]/\H p=some (.ins C dx [])/\H fa=some (.lst [.int m0,.int m1,dv,.int m3,wv])/\(0<=m0/\m0<2^60)/\(0<=m1/\m1<2^24)/\∀(tm:Int) (H':Hp),tm=tmF m1 m0->H' p=some (.ins C dx (acR m0 m1 dv m3 wv tm))->(∀b o,H b=some o->b≠p->H' b=some o)->Q .non H'
def ajI(K:PySem.W.Frag)(C:Addr)(C_Numbers:Addr)(C_Last:Addr)(C_Near:Addr)(C_LastWork:Addr)(C_Weekdays:Addr)(C_Nth:Addr)(C_LastOne:Addr)(C_Mark:Addr):Sp:=fun vs H Q _=>∃(p dx:Addr) (m0 m1 m3 tm k:Int) (dv wv:V) (kd kw:Option (List Mk)),vs=[.ref p,.int k]/\H p=some (.ins C dx (acR m0 m1 dv m3 wv tm))/\(0<=k/\k<=90)/\0<=m3/\DV (⟨C_Numbers,C_Last,C_Near,C_LastWork,C_Weekdays,C_Nth,C_LastOne,C_Mark⟩:Cs) H dv kd/\DV (⟨C_Numbers,C_Last,C_Near,C_LastWork,C_Weekdays,C_Nth,C_LastOne,C_Mark⟩:Cs) H wv kw/\∀H',Same H H'->Q (.int (if tb m3 (mnA k).toNat=true then abJ kd kw (lnA k) (k%7) else 0)) H'
def amK(K:PySem.W.Frag)(C_Numbers:Addr)(C_Last:Addr)(C_Near:Addr)(C_LastWork:Addr)(C_Weekdays:Addr)(C_Nth:Addr)(C_LastOne:Addr)(C_Mark:Addr):Sp:=fun vs H Q _=>∃(t:List Nat) (pl:Int),vs=[.str (Tx t),.int pl]/\((pl=2/\∃ko,DT false t ko/\∀(v:V) (H':Hp),Same H H'->DV (⟨C_Numbers,C_Last,C_Near,C_LastWork,C_Weekdays,C_Nth,C_LastOne,C_Mark⟩:Cs) H' v (gO false ko)->(∀p,v=.ref p->H p=none)->Q v H')∨(pl=4/\∃ko,DT true t ko/\∀(v:V) (H':Hp),Same H H'->DV (⟨C_Numbers,C_Last,C_Near,C_LastWork,C_Weekdays,C_Nth,C_LastOne,C_Mark⟩:Cs) H' v (gO true ko)->(∀p,v=.ref p->H p=none)->Q v H')∨(∃lo hi m:Int,(pl=0/\lo=0/\hi=59∨pl=1/\lo=0/\hi=23∨pl=3/\lo=1/\hi=12)/\FT lo hi t m/\∀H',Same H H'->Q (.int m) H'))
def ap0(K:PySem.W.Frag)(C_Numbers:Addr)(C_Last:Addr)(C_Near:Addr)(C_LastWork:Addr)(C_Weekdays:Addr)(C_Nth:Addr)(C_LastOne:Addr)(C_Mark:Addr):Sp:=fun vs H Q _=>∃(t:List Nat) (pl:Int),vs=[.str (Tx t),.int pl]/\((pl=2/\∃ko,DT false t ko/\∀(v:V) (H':Hp),Same H H'->DV (⟨C_Numbers,C_Last,C_Near,C_LastWork,C_Weekdays,C_Nth,C_LastOne,C_Mark⟩:Cs) H' v (gO false ko)->(∀p,v=.ref p->H p=none)->Q v H')∨(pl=4/\∃ko,DT true t ko/\∀(v:V) (H':Hp),Same H H'->DV (⟨C_Numbers,C_Last,C_Near,C_LastWork,C_Weekdays,C_Nth,C_LastOne,C_Mark⟩:Cs) H' v (gO true ko)->(∀p,v=.ref p->H p=none)->Q v H')∨(∃lo hi m:Int,(pl=0/\lo=0/\hi=59∨pl=1/\lo=0/\hi=23∨pl=3/\lo=1/\hi=12)/\FT lo hi t m/\∀H',Same H H'->Q (.int m) H'))
def apI(K:PySem.W.Frag)(C_Numbers:Addr)(C_Last:Addr)(C_Near:Addr)(C_LastWork:Addr)(C_Weekdays:Addr)(C_Nth:Addr)(C_LastOne:Addr)(C_Mark:Addr)(C_Row:Addr):Sp:=fun vs H Q _=>∃(w0 w1 w2 w3 w4:List Nat) (m0 m1 m3:Int) (kd kw:Option (List Mk)),vs=[.str (Tx (aaT 32 [w0,w1,w2,w3,w4]))]/\FT 0 59 w0 m0/\FT 0 23 w1 m1/\FT 1 12 w3 m3/\DT false w2 kd/\DT true w4 kw/\(m0<2^60/\m1<2^24)/\∀(x dx:Addr) (dv wv:V) (tm:Int) (H':Hp),tm=tmF m1 m0->Same H H'->H' x=some (.ins C_Row dx (acR m0 m1 dv m3 wv tm))->DV (⟨C_Numbers,C_Last,C_Near,C_LastWork,C_Weekdays,C_Nth,C_LastOne,C_Mark⟩:Cs) H' dv (gO false kd)->DV (⟨C_Numbers,C_Last,C_Near,C_LastWork,C_Weekdays,C_Nth,C_LastOne,C_Mark⟩:Cs) H' wv (gO true kw)->Q (.ref x) H'
def ah9(K:PySem.W.Frag):Sp:=fun vs H Q _=>∃(a:Addr) (k:Int),vs=[.ref a,.int k]/\(∃ns:List Int,SqL K H a (ns.map V.int))/\(0<=k/\k<1000)/\∀c:Int,Q (.int c) H
def am0(K:PySem.W.Frag):Sp:=fun vs H Q _=>∃n:Int,vs=[.int n]/\∀r:Int,0<=r->r<2147483629->Q (.int r) H
def ai1(K:PySem.W.Frag):Sp:=fun vs H Q _=>∃(c:Int) (a:Addr) (b:Bool) (ss:List Int),vs=[.int c,.ref a,.bl b]/\SqL K H a (ss.map V.int)/\(∀z∈ss,0<z/\z<1073741824)/\ss.length<=63/\∀(ds:List Int) (p:Addr) (H':Hp),Same H H'->H' p=some (.lst (ds.map V.int))->Digs ds ss->Q (.ref p) H'
def amN(K:PySem.W.Frag):Sp:=fun vs H Q _=>∃(p:Addr) (way fi la st lo hi:Int),vs=[.int way,.int fi,.int la,.int st,.ref p]/\SqT K H p [.int lo,.int hi]/\(0<=lo/\lo<=hi/\hi<=63)/\∀(t u:Addr) (tw:List Nat) (ns:List Int) (H':Hp),Same H H'->H' t=some (.tup [.str (Tx tw),.ref u])->H' u=some (.lst (ns.map V.int))->adG lo hi tw ns->tw≠[42]->Q (.ref t) H'
def al2(K:PySem.W.Frag):Sp:=fun vs H Q _=>∃(a:Addr) (ns:List Int),vs=[.ref a]/\SqL K H a (ns.map V.int)/\ns.length<=1000/\(∀n∈ns,0<=n/\n<=62)/\∀(zs:List Int) (H':Hp),zs.Pairwise (·<·)->(∀x,x∈zs↔x∈ns)->Same H H'->Q (.int (abV zs)) H'
def anQ(K:PySem.W.Frag):Sp:=fun vs H Q _=>∃(p:Addr) (b:Bool) (way fi la st:Int),vs=[.ref p,.bl b]/\SqL K H p [.int way,.int fi,.int la,.int st]/\(0<=way/\way<16)/\∀(t u:Addr) (tw:List Nat) (k:Mk) (H':Hp),Same H H'->H' t=some (.tup [.str (Tx tw),.ref u])->H' u=some (.tup k.tup)->k.ok->k.sp=true->k.wk=b->SpT b tw k->Cl tw->tw≠[42]->Q (.ref t) H'
def aiP(K:PySem.W.Frag):Sp:=fun vs H Q _=>∃l f:Int,vs=[.int l,.int f]/\(28<=l/\l<=31)/\∀(p:Addr) (H':Hp),Same H H'->H' p=some (.lst ((abM f l.toNat).map V.int))->Q (.ref p) H'
def am9(K:PySem.W.Frag):Sp:=fun vs H Q _=>∃d l f:Int,vs=[.int d,.int l,.int f]/\Ok3 d l f/\∀H':Hp,Same H H'->Q (.int (agU d l f)) H'
def aq0(K:PySem.W.Frag):Sp:=fun vs H Q _=>∃w l f:Int,vs=[.int w,.int l,.int f]/\(28<=l/\l<=31)/\∀(p:Addr) (H':Hp),Same H H'->H' p=some (.lst ((onN f w l.toNat).map V.int))->Q (.ref p) H'
def anC(K:PySem.W.Frag):Sp:=fun vs H Q _=>∃(u:Addr) (k:Mk) (l f:Int),vs=[.ref u,.int l,.int f,.bl k.wk]/\H u=some (.tup k.tup)/\k.ok/\k.sp=true/\Lf l f/\∀H',Same H H'->Q (.int (k.due l f)) H'
def akM(K:PySem.W.Frag):Sp:=fun vs H Q _=>∃(c lo hi:Int) (bm:Bool),vs=[.int c,.int lo,.int hi,.bl bm]/\(0<=lo/\lo<hi/\hi<=62)/\∀(t:Addr) (tw:List Nat) (m:Int) (H':Hp),Same H H'->H' t=some (.tup [.str (Tx tw),.int m])->FT lo hi tw m->0<m/\m<2^(hi.toNat+1)->Q (.ref t) H'
def afY(K:PySem.W.Frag):Sp:=fun vs H Q _=>∃(c:Int) (b bm:Bool),vs=[.int c,.bl b,.bl bm]/\∀(t:Addr) (tw:List Nat) (v:V) (ko:Option (List Mk)) (H':Hp),Same H H'->H' t=some (.tup [.str (Tx tw),v])->SV b H' v ko->DT b tw ko->Q (.ref t) H'
def aiF(K:PySem.W.Frag):Sp:=fun vs H Q _=>∃(r:Addr) (mn l f m0 m1 m3:Int) (v2 v4:V) (kd kw:Option (List Mk)),vs=[.ref r,.int mn,.int l,.int f]/\H r=some (.lst [.int m0,.int m1,v2,.int m3,v4])/\SV false H v2 kd/\SV true H v4 kw/\0<=m3/\(1<=mn/\mn<=12)/\Lf l f/\∀H',Same H H'->Q (.int (if tb m3 mn.toNat=true then abJ kd kw l f else 0)) H'
def aoY(K:PySem.W.Frag):Sp:=fun vs H Q _=>∃(a:Addr) (c0 c1 c2 c3 c4:Int) (bm:Bool),vs=[.ref a,.bl bm]/\SqL K H a [.int c0,.int c1,.int c2,.int c3,.int c4]/\∀(t R:Addr) (w0 w1 w2 w3 w4:List Nat) (m0 m1 m3:Int) (v2 v4:V) (kd kw:Option (List Mk)) (H':Hp),Same H H'->H' t=some (.tup [.str (Tx (aaT 32 [w0,w1,w2,w3,w4])),.ref R])->H' R=some (.lst [.int m0,.int m1,v2,.int m3,v4])->FT 0 59 w0 m0->FT 0 23 w1 m1->FT 1 12 w3 m3->DT false w2 kd->DT true w4 kw->SV false H' v2 kd->SV true H' v4 kw->(0<m0/\0<m1)->(m0<2^60/\m1<2^24)->Q (.ref t) H'
def akR(K:PySem.W.Frag):Sp:=fun vs H Q _=>∃(a:Addr) (k:Int),vs=[.ref a,.int k]/\(∃ns:List Int,SqL K H a (ns.map V.int))/\(0<=k/\k<900)/\∀(p:Addr) (c0 c1 c2 c3 c4:Int) (H':Hp),Same H H'->H' p=some (.lst [.int c0,.int c1,.int c2,.int c3,.int c4])->Q (.ref p) H'
def aj9(K:PySem.W.Frag)(C:Addr)(C_Numbers:Addr)(C_Last:Addr)(C_Near:Addr)(C_LastWork:Addr)(C_Weekdays:Addr)(C_Nth:Addr)(C_LastOne:Addr)(C_Mark:Addr):Sp:=fun vs H Q _=>∃(p dx:Addr) (m0 m1 m3 tm mo:Int) (dv wv:V) (kd kw:Option (List Mk)),vs=[.ref p,.int mo]/\H p=some (.ins C dx (acR m0 m1 dv m3 wv tm))/\(0<=m0/\0<=m1/\0<=m3)/\DV (⟨C_Numbers,C_Last,C_Near,C_LastWork,C_Weekdays,C_Nth,C_LastOne,C_Mark⟩:Cs) H dv kd/\DV (⟨C_Numbers,C_Last,C_Near,C_LastWork,C_Weekdays,C_Nth,C_LastOne,C_Mark⟩:Cs) H wv kw/\∀(y m k:Int) (H':Hp),OkD y m k->acJ y m k=mo / 1440->Same H H'->Q (shK m0 m1 m3 kd kw (mo / 1440) (mo%1440) y m k) H'
def anR(K:PySem.W.Frag):Sp:=fun vs H Q _=>∃y:Int,vs=[.int y]/\Q (.bl (aa6 y)) H
def ai7(K:PySem.W.Frag):Sp:=fun vs H Q _=>∃y:Int,vs=[.int y]/\Q (.int (db y)) H
def anL(K:PySem.W.Frag):Sp:=fun vs H Q _=>∃y m:Int,vs=[.int y,.int m]/\(1<=m/\m<=12)/\∀H',Same H H'->Q (.int (aaE y m)) H'
def amW(K:PySem.W.Frag):Sp:=fun vs H Q _=>∃d:Int,vs=[.int d]/\∀(y m k:Int) (p:Addr) (H':Hp),OkD y m k->acJ y m k=d->Same H H'->H' p=some (.tup [.int y,.int m,.int k])->Q (.ref p) H'
def akL(K:PySem.W.Frag):Sp:=fun vs H Q _=>∃m:Int,vs=[.int m]/\(0<m/\m<2^60)/\∀(n:Int) (H':Hp),Same H H'->Q (.int n) H'
def anN(K:PySem.W.Frag):Sp:=fun vs H Q _=>∃(r:Addr) (mo m0 m1 m3:Int) (v2 v4:V) (kd kw:Option (List Mk)),vs=[.ref r,.int mo]/\H r=some (.lst [.int m0,.int m1,v2,.int m3,v4])/\SV false H v2 kd/\SV true H v4 kw/\(0<=m0/\0<=m1/\0<=m3)/\∀(y m k:Int) (H':Hp),OkD y m k->acJ y m k=mo / 1440->Same H H'->Q (shK m0 m1 m3 kd kw (mo / 1440) (mo%1440) y m k) H'
def akA(K:PySem.W.Frag):Sp:=fun vs H Q _=>∃(c:Int) (bm:Bool),vs=[.int c,.bl bm]/\∀(mo:Int) (H':Hp),Same H H'->Q (.int mo) H'
def anH(K:PySem.W.Frag)(C_Numbers:Addr)(C_Last:Addr)(C_Near:Addr)(C_LastWork:Addr)(C_Weekdays:Addr)(C_Nth:Addr)(C_LastOne:Addr)(C_Mark:Addr)(C_Row:Addr):Sp:=fun vs H Q _=>∃(x dx r:Addr) (mo m0 m1 m3 tm:Int) (dv wv v2 v4:V) (w2 w4:List Nat) (kd kw:Option (List Mk)),vs=[.ref x,.ref r,.int mo]/\H x=some (.ins C_Row dx (acR m0 m1 dv m3 wv tm))/\H r=some (.lst [.int m0,.int m1,v2,.int m3,v4])/\DV (⟨C_Numbers,C_Last,C_Near,C_LastWork,C_Weekdays,C_Nth,C_LastOne,C_Mark⟩:Cs) H dv (gO false kd)/\DV (⟨C_Numbers,C_Last,C_Near,C_LastWork,C_Weekdays,C_Nth,C_LastOne,C_Mark⟩:Cs) H wv (gO true kw)/\SV false H v2 kd/\SV true H v4 kw/\DT false w2 kd/\DT true w4 kw/\(0<=m0/\0<=m1/\0<=m3)/\∀H',Same H H'->Q (.bl true) H'
def sp_law(K:PySem.W.Frag):Sp:=fun vs H Q _=>∃(a:Addr) (ns:List Int),vs=[.ref a]/\SqL K H a (ns.map V.int)/\ns.length<=63/\∀H',Q (.bl true) H'
theorem md_Last___init__{K:PySem.W.Frag}{C f T:Addr}{od an tod:Option Addr}{sl tsl:Array (Option Value)}{oc kV dc pm cd ct:Value}{tn:Nat}{t0:Tok}(a:PySem.W.findIn K (.ref C) "__init__"=some (some (.ref f)))(i:PySem.W.isFn K (.ref f)=true)(l:K.lookup f=some ⟨oc,od,.func (PySem.W.fnOf "__init__" "Last.__init__" (abB aaX) (aaQ aaX) (aaC aaX) (.ref T) kV dc pm an cd ct),sl⟩)(c:PySem.W.codeIn K cd "Last.__init__"=true)(k:PySem.W.keepIn K (.ref f)=true)(lt:K.lookup T=some ⟨.type "tuple",tod,.seq #[.int 0 t0] tn,tsl⟩):FnMD K C "__init__" "Last.__init__" aaX ["self","back"] [.int 0]:=
 aB6 (ds:=[.int 0 t0]) a i l c k (fun s us X hl=>match us,(show us.length=2 by simpa using hl) with | [_,_],_=>PySem.W.binds_K X rfl lt rfl rfl rfl) (.cons ⟨_,rfl⟩ .nil) (fun s us X hl=>match us,(show us.length=1 by simpa using hl) with | [_],_=>PySem.W.binds_K X rfl lt rfl rfl rfl)
theorem q_MONTH_LASTS{K:PySem.W.Frag}{a:Addr}{od:Option Addr}{sl:Array (Option Value)}{n:Nat}{t0 t1 t2 t3 t4 t5 t6 t7 t8 t9 t10 t11:Tok}(l:K.lookup a=some ⟨.type "tuple",od,.seq #[.int 31 t0,.int 28 t1,.int 31 t2,.int 30 t3,.int 31 t4,.int 30 t5,.int 31 t6,.int 31 t7,.int 30 t8,.int 31 t9,.int 30 t10,.int 31 t11] n,sl⟩):∀H,SqT K H a (([31,28,31,30,31,30,31,31,30,31,30,31]:List Int).map V.int):=fun H=>.inr ⟨_,_,_,l,rfl,rfl,(by show 12<=sizeLine;decide),(.cons ⟨_,rfl⟩ (.cons ⟨_,rfl⟩ (.cons ⟨_,rfl⟩ (.cons ⟨_,rfl⟩ (.cons ⟨_,rfl⟩ (.cons ⟨_,rfl⟩ (.cons ⟨_,rfl⟩ (.cons ⟨_,rfl⟩ (.cons ⟨_,rfl⟩ (.cons ⟨_,rfl⟩ (.cons ⟨_,rfl⟩ (.cons ⟨_,rfl⟩ .nil))))))))))))⟩
theorem q_BOUNDS{K:PySem.W.Frag}{a b0 b1 b3:Addr}{ep:Nat}{t0 t1 t3:Tok}(l:K.lookup a=some ⟨.type "dict",none,.dict #[⟨0,.int 0 t0,.ref b0⟩,⟨1,.int 1 t1,.ref b1⟩,⟨3,.int 3 t3,.ref b3⟩] ep,#[]⟩):KD K a [(0,.ref b0),(1,.ref b1),(3,.ref b3)]:=by
 refine⟨_,ep,[(.inl 0,.ref b0),(.inl 1,.ref b1),(.inl 3,.ref b3)],l,(.cons ⟨rfl,rfl⟩ (.cons ⟨rfl,rfl⟩ (.cons ⟨rfl,rfl⟩ .nil))),(show ([.inl 0,.inl 1,.inl 3]:List Key).Nodup by decide),fun P w=>⟨?_,(.cons rfl rfl (.cons rfl rfl (.cons rfl rfl .nil)))⟩⟩
 intro e he
 simp only[Array.mem_toArray,List.mem_cons,List.not_mem_nil,or_false] at he
 rcases he with rfl | rfl | rfl
 ·exact⟨.inl 0,rfl,rfl⟩
 ·exact⟨.inl 1,rfl,rfl⟩
 ·exact⟨.inl 3,rfl,rfl⟩
theorem q_BOUNDS_0{K:PySem.W.Frag}{a:Addr}{od:Option Addr}{sl:Array (Option Value)}{n:Nat}{t0 t1:Tok}(l:K.lookup a=some ⟨.type "tuple",od,.seq #[.int 0 t0,.int 59 t1] n,sl⟩):∀H,SqT K H a (([0,59]:List Int).map V.int):=fun H=>.inr ⟨_,_,_,l,rfl,rfl,(by show 2<=sizeLine;decide),(.cons ⟨_,rfl⟩ (.cons ⟨_,rfl⟩ .nil))⟩
theorem q_BOUNDS_1{K:PySem.W.Frag}{a:Addr}{od:Option Addr}{sl:Array (Option Value)}{n:Nat}{t0 t1:Tok}(l:K.lookup a=some ⟨.type "tuple",od,.seq #[.int 0 t0,.int 23 t1] n,sl⟩):∀H,SqT K H a (([0,23]:List Int).map V.int):=fun H=>.inr ⟨_,_,_,l,rfl,rfl,(by show 2<=sizeLine;decide),(.cons ⟨_,rfl⟩ (.cons ⟨_,rfl⟩ .nil))⟩
theorem q_BOUNDS_3{K:PySem.W.Frag}{a:Addr}{od:Option Addr}{sl:Array (Option Value)}{n:Nat}{t0 t1:Tok}(l:K.lookup a=some ⟨.type "tuple",od,.seq #[.int 1 t0,.int 12 t1] n,sl⟩):∀H,SqT K H a (([1,12]:List Int).map V.int):=fun H=>.inr ⟨_,_,_,l,rfl,rfl,(by show 2<=sizeLine;decide),(.cons ⟨_,rfl⟩ (.cons ⟨_,rfl⟩ .nil))⟩
theorem mg_tx{K:PySem.W.Frag}{h:Heap}{mg:Str->Option Value}{x n:Str}{l:List Nat}{t:Tok}(X:K.In h)(G:h.Ns mainGlobals mg)(e:x=Tx l)(a:PySem.W.nsIn K mainGlobals n=some (some (.str x t))):mg n=some (.str (Tx l) t):=e▸PySem.W.mg_of X G a
theorem aqR:FnScope ["year"] ["year"] (aaC alX):=⟨rfl,rfl,rfl,by decide +kernel,rfl,by decide +kernel,by decide +kernel⟩
theorem aeT:FnScope ["year","step"] ["year","step"] (aaC acG):=⟨rfl,rfl,rfl,by decide +kernel,rfl,by decide +kernel,by decide +kernel⟩
theorem sc_days_before:FnScope ["year","longs"] ["year"] (aaC aeY):=⟨rfl,rfl,rfl,by decide +kernel,rfl,by decide +kernel,by decide +kernel⟩
theorem aqQ:FnScope ["year","month"] ["year","month"] (aaC alQ):=⟨rfl,rfl,rfl,by decide +kernel,rfl,by decide +kernel,by decide +kernel⟩
theorem aoO:FnScope ["thing"] ["thing"] (aaC ajR):=⟨rfl,rfl,rfl,by decide +kernel,rfl,by decide +kernel,by decide +kernel⟩
theorem ap3:FnScope ["year","month","day"] ["year","month","day"] (aaC alF):=⟨rfl,rfl,rfl,by decide +kernel,rfl,by decide +kernel,by decide +kernel⟩
theorem sc_day_of:FnScope ["year","month","day","ahead"] ["year","month","day"] (aaC apV):=⟨rfl,rfl,rfl,by decide +kernel,rfl,by decide +kernel,by decide +kernel⟩
theorem sc_year_of:FnScope ["day","year"] ["day"] (aaC ak8):=⟨rfl,rfl,rfl,by decide +kernel,rfl,by decide +kernel,by decide +kernel⟩
theorem sc_date_of:FnScope ["day","year","month","rest"] ["day"] (aaC al0):=⟨rfl,rfl,rfl,by decide +kernel,rfl,by decide +kernel,by decide +kernel⟩
theorem arF:FnScope ["day"] ["day"] (aaC alI):=⟨rfl,rfl,rfl,by decide +kernel,rfl,by decide +kernel,by decide +kernel⟩
theorem sc_kind_from:FnScope ["year","month","day","place"] ["year","month","day"] (aaC ahT):=⟨rfl,rfl,rfl,by decide +kernel,rfl,by decide +kernel,by decide +kernel⟩
theorem aq9:FnScope ["year","month"] ["year","month"] (aaC alT):=⟨rfl,rfl,rfl,by decide +kernel,rfl,by decide +kernel,by decide +kernel⟩
theorem sc_parted:FnScope ["moment","time"] ["moment"] (aaC aoU):=⟨rfl,rfl,rfl,by decide +kernel,rfl,by decide +kernel,by decide +kernel⟩
theorem akG:FnScope ["text"] ["text"] (aaC ae5):=⟨rfl,rfl,rfl,by decide +kernel,rfl,by decide +kernel,by decide +kernel⟩
theorem akW:FnScope ["text"] ["text"] (aaC agF):=⟨rfl,rfl,rfl,by decide +kernel,rfl,by decide +kernel,by decide +kernel⟩
theorem aFM:FnScope ["mask","number"] ["mask","number"] (aaC aD2):=⟨rfl,rfl,rfl,by decide +kernel,rfl,by decide +kernel,by decide +kernel⟩
theorem sc_mask_of:FnScope ["numbers","mask","number"] ["numbers"] (aaC alL):=⟨rfl,rfl,rfl,by decide +kernel,rfl,by decide +kernel,by decide +kernel⟩
theorem akZ:FnScope ["mask"] ["mask"] (aaC af2):=⟨rfl,rfl,rfl,by decide +kernel,rfl,by decide +kernel,by decide +kernel⟩
theorem aoW:FnScope ["first","last","stride"] ["first","last","stride"] (aaC ajX):=⟨rfl,rfl,rfl,by decide +kernel,rfl,by decide +kernel,by decide +kernel⟩
theorem sc_read_number:FnScope ["text","low","high","number"] ["text","low","high"] (aaC ae8):=⟨rfl,rfl,rfl,by decide +kernel,rfl,by decide +kernel,by decide +kernel⟩
theorem sc_read_run:FnScope ["text","low","high","ends"] ["text","low","high"] (aaC ajC):=⟨rfl,rfl,rfl,by decide +kernel,rfl,by decide +kernel,by decide +kernel⟩
theorem sc_read_strided:FnScope ["run_text","stride_text","low","high","run","stride","last"] ["run_text","stride_text","low","high"] (aaC aeB):=⟨rfl,rfl,rfl,by decide +kernel,rfl,by decide +kernel,by decide +kernel⟩
theorem sc_read_item:FnScope ["item","low","high","parts","run"] ["item","low","high"] (aaC ahE):=⟨rfl,rfl,rfl,by decide +kernel,rfl,by decide +kernel,by decide +kernel⟩
theorem sc_read_field:FnScope ["text","low","high","items","mask","place","item","told"] ["text","low","high"] (aaC af1):=⟨rfl,rfl,rfl,by decide +kernel,rfl,by decide +kernel,by decide +kernel⟩
theorem akV:FnScope ["day","first"] ["day","first"] (aaC agD):=⟨rfl,rfl,rfl,by decide +kernel,rfl,by decide +kernel,by decide +kernel⟩
theorem aoB:FnScope ["last"] ["last"] (aaC ajE):=⟨rfl,rfl,rfl,by decide +kernel,rfl,by decide +kernel,by decide +kernel⟩
theorem sc_nearest_work:FnScope ["day","last","first","of_week"] ["day","last","first"] (aaC adU):=⟨rfl,rfl,rfl,by decide +kernel,rfl,by decide +kernel,by decide +kernel⟩
theorem al6:FnScope ["weekday","first"] ["weekday","first"] (aaC ahL):=⟨rfl,rfl,rfl,by decide +kernel,rfl,by decide +kernel,by decide +kernel⟩
theorem anS:FnScope ["self","last","first"] ["self","last","first"] (aaC ahS):=⟨rfl,rfl,rfl,by decide +kernel,rfl,by decide +kernel,by decide +kernel⟩
theorem aeO:FnScope ["self","mask"] ["self","mask"] (aaC acC):=⟨rfl,rfl,rfl,by decide +kernel,rfl,by decide +kernel,by decide +kernel⟩
theorem aiD:FnScope ["self","last","first"] ["self","last","first"] (aaC ad9):=⟨rfl,rfl,rfl,by decide +kernel,rfl,by decide +kernel,by decide +kernel⟩
theorem agT:FnScope ["self","back"] ["self","back"] (aaC aaX):=⟨rfl,rfl,rfl,by decide +kernel,rfl,by decide +kernel,by decide +kernel⟩
theorem al3:FnScope ["self","last","first"] ["self","last","first"] (aaC ahW):=⟨rfl,rfl,rfl,by decide +kernel,rfl,by decide +kernel,by decide +kernel⟩
theorem agR:FnScope ["self","day"] ["self","day"] (aaC adP):=⟨rfl,rfl,rfl,by decide +kernel,rfl,by decide +kernel,by decide +kernel⟩
theorem anW:FnScope ["self","last","first"] ["self","last","first"] (aaC ahQ):=⟨rfl,rfl,rfl,by decide +kernel,rfl,by decide +kernel,by decide +kernel⟩
theorem agP:FnScope ["self","last","first"] ["self","last","first"] (aaC adI):=⟨rfl,rfl,rfl,by decide +kernel,rfl,by decide +kernel,by decide +kernel⟩
theorem aeE:FnScope ["self","mask"] ["self","mask"] (aaC ab1):=⟨rfl,rfl,rfl,by decide +kernel,rfl,by decide +kernel,by decide +kernel⟩
theorem sc_Weekdays_days:FnScope ["self","last","first","weeks","week"] ["self","last","first"] (aaC adK):=⟨rfl,rfl,rfl,by decide +kernel,rfl,by decide +kernel,by decide +kernel⟩
theorem ah3:FnScope ["self","weekday","many"] ["self","weekday","many"] (aaC adX):=⟨rfl,rfl,rfl,by decide +kernel,rfl,by decide +kernel,by decide +kernel⟩
theorem sc_Nth_days:FnScope ["self","last","first","day"] ["self","last","first"] (aaC akH):=⟨rfl,rfl,rfl,by decide +kernel,rfl,by decide +kernel,by decide +kernel⟩
theorem aeU:FnScope ["self","weekday"] ["self","weekday"] (aaC ab7):=⟨rfl,rfl,rfl,by decide +kernel,rfl,by decide +kernel,by decide +kernel⟩
theorem ah8:FnScope ["self","last","first"] ["self","last","first"] (aaC aeC):=⟨rfl,rfl,rfl,by decide +kernel,rfl,by decide +kernel,by decide +kernel⟩
theorem sc_any_days:FnScope ["marks","last","first","mask","mark"] ["marks","last","first"] (aaC aiY):=⟨rfl,rfl,rfl,by decide +kernel,rfl,by decide +kernel,by decide +kernel⟩
theorem sc_read_day_mark:FnScope ["item","back","day"] ["item"] (aaC adO):=⟨rfl,rfl,rfl,by decide +kernel,rfl,by decide +kernel,by decide +kernel⟩
theorem sc_read_weekday:FnScope ["text","number"] ["text"] (aaC aeG):=⟨rfl,rfl,rfl,by decide +kernel,rfl,by decide +kernel,by decide +kernel⟩
theorem sc_read_weekday_mark:FnScope ["item","weekday","parts","many"] ["item"] (aaC ab2):=⟨rfl,rfl,rfl,by decide +kernel,rfl,by decide +kernel,by decide +kernel⟩
theorem sc_read_items:FnScope ["text","low","high","read_mark","items","mask","marks","place","item","plain","mark"] ["text","low","high","read_mark"] (aaC agC):=⟨rfl,rfl,rfl,by decide +kernel,rfl,by decide +kernel,by decide +kernel⟩
theorem sc_read_days:FnScope ["text","read"] ["text"] (aaC ahI):=⟨rfl,rfl,rfl,by decide +kernel,rfl,by decide +kernel,by decide +kernel⟩
theorem sc_read_weekdays:FnScope ["text","read","mask"] ["text"] (aaC adH):=⟨rfl,rfl,rfl,by decide +kernel,rfl,by decide +kernel,by decide +kernel⟩
theorem sc_month_at:FnScope ["kind","place","first"] ["kind"] (aaC ajF):=⟨rfl,rfl,rfl,by decide +kernel,rfl,by decide +kernel,by decide +kernel⟩
theorem sc_times_of:FnScope ["hours","minutes","times","hour"] ["hours","minutes"] (aaC ai6):=⟨rfl,rfl,rfl,by decide +kernel,rfl,by decide +kernel,by decide +kernel⟩
theorem sc_days_by:FnScope ["days","weekdays","last","first","mask","marks"] ["days","weekdays","last","first"] (aaC alD):=⟨rfl,rfl,rfl,by decide +kernel,rfl,by decide +kernel,by decide +kernel⟩
theorem aiH:FnScope ["self","fields"] ["self","fields"] (aaC adZ):=⟨rfl,rfl,rfl,by decide +kernel,rfl,by decide +kernel,by decide +kernel⟩
theorem sc_Row_days_in:FnScope ["self","kind","month"] ["self","kind"] (aaC ae3):=⟨rfl,rfl,rfl,by decide +kernel,rfl,by decide +kernel,by decide +kernel⟩
theorem sc_read_word:FnScope ["word","place","bounds"] ["word","place"] (aaC ahP):=⟨rfl,rfl,rfl,by decide +kernel,rfl,by decide +kernel,by decide +kernel⟩
theorem aqE:FnScope ["word","place"] ["word","place"] (aaC alG):=⟨rfl,rfl,rfl,by decide +kernel,rfl,by decide +kernel,by decide +kernel⟩
theorem sc_read_row:FnScope ["text","words"] ["text"] (aaC ajH):=⟨rfl,rfl,rfl,by decide +kernel,rfl,by decide +kernel,by decide +kernel⟩
theorem aiI:FnScope ["_law_script","_law_k"] ["_law_script","_law_k"] (aaC aeD):=⟨rfl,rfl,rfl,by decide +kernel,rfl,by decide +kernel,by decide +kernel⟩
theorem sc__law_stir:FnScope ["_law_number","_law_first_here","_law_second"] ["_law_number"] (aaC ag8):=⟨rfl,rfl,rfl,by decide +kernel,rfl,by decide +kernel,by decide +kernel⟩
theorem sc__law_digits:FnScope ["_law_cell","_law_sizes","_law_mixed","_law_found","_law_size"] ["_law_cell","_law_sizes","_law_mixed"] (aaC ae2):=⟨rfl,rfl,rfl,by decide +kernel,rfl,by decide +kernel,by decide +kernel⟩
theorem sc__law_item:FnScope ["_law_way","_law_first_here","_law_last_here","_law_step","_law_bounds","_law_low","_law_high"] ["_law_way","_law_first_here","_law_last_here","_law_step","_law_bounds"] (aaC ahX):=⟨rfl,rfl,rfl,by decide +kernel,rfl,by decide +kernel,by decide +kernel⟩
theorem anD:FnScope ["_law_numbers"] ["_law_numbers"] (aaC ahU):=⟨rfl,rfl,rfl,by decide +kernel,rfl,by decide +kernel,by decide +kernel⟩
theorem sc__law_spec:FnScope ["_law_parts","_law_week","_law_way","_law_first_here","_law_last_here","_law_step","_law_day","_law_text","_law_numbers"] ["_law_parts","_law_week"] (aaC ag9):=⟨rfl,rfl,rfl,by decide +kernel,rfl,by decide +kernel,by decide +kernel⟩
theorem ah1:FnScope ["_law_last_here","_law_first_here"] ["_law_last_here","_law_first_here"] (aaC adY):=⟨rfl,rfl,rfl,by decide +kernel,rfl,by decide +kernel,by decide +kernel⟩
theorem sc__law_near:FnScope ["_law_day","_law_last_here","_law_first_here","_law_found","_law_other"] ["_law_day","_law_last_here","_law_first_here"] (aaC ag6):=⟨rfl,rfl,rfl,by decide +kernel,rfl,by decide +kernel,by decide +kernel⟩
theorem ap6:FnScope ["_law_which","_law_last_here","_law_first_here"] ["_law_which","_law_last_here","_law_first_here"] (aaC alU):=⟨rfl,rfl,rfl,by decide +kernel,rfl,by decide +kernel,by decide +kernel⟩
theorem sc__law_days:FnScope ["_law_spec_here","_law_last_here","_law_first_here","_law_week","_law_word","_law_one","_law_other"] ["_law_spec_here","_law_last_here","_law_first_here","_law_week"] (aaC ag7):=⟨rfl,rfl,rfl,by decide +kernel,rfl,by decide +kernel,by decide +kernel⟩
theorem sc__law_field:FnScope ["_law_cell","_law_low","_law_high","_law_mixed","_law_wide","_law_parts","_law_texts","_law_numbers","_law_k","_law_way","_law_first_here","_law_last_here","_law_step","_law_text","_law_some"] ["_law_cell","_law_low","_law_high","_law_mixed"] (aaC afT):=⟨rfl,rfl,rfl,by decide +kernel,rfl,by decide +kernel,by decide +kernel⟩
theorem sc__law_day_field:FnScope ["_law_cell","_law_week","_law_mixed","_law_parts","_law_texts","_law_specs","_law_k","_law_text","_law_spec_here"] ["_law_cell","_law_week","_law_mixed"] (aaC acT):=⟨rfl,rfl,rfl,by decide +kernel,rfl,by decide +kernel,by decide +kernel⟩
theorem sc__law_days_in:FnScope ["_law_row_here","_law_month","_law_last_here","_law_first_here","_law_found","_law_specs","_law_week","_law_spec_here"] ["_law_row_here","_law_month","_law_last_here","_law_first_here"] (aaC adW):=⟨rfl,rfl,rfl,by decide +kernel,rfl,by decide +kernel,by decide +kernel⟩
theorem sc__law_row:FnScope ["_law_cells_here","_law_mixed","_law_minutes","_law_hours","_law_days_here","_law_months","_law_week","_law_some"] ["_law_cells_here","_law_mixed"] (aaC ajN):=⟨rfl,rfl,rfl,by decide +kernel,rfl,by decide +kernel,by decide +kernel⟩
theorem akX:FnScope ["_law_script","_law_at"] ["_law_script","_law_at"] (aaC afV):=⟨rfl,rfl,rfl,by decide +kernel,rfl,by decide +kernel,by decide +kernel⟩
theorem sc_Row_shut_by:FnScope ["self","moment","parts","date"] ["self","moment"] (aaC ae0):=⟨rfl,rfl,rfl,by decide +kernel,rfl,by decide +kernel,by decide +kernel⟩
theorem amO:FnScope ["_law_year"] ["_law_year"] (aaC ahO):=⟨rfl,rfl,rfl,by decide +kernel,rfl,by decide +kernel,by decide +kernel⟩
theorem aj3:FnScope ["_law_year"] ["_law_year"] (aaC ae9):=⟨rfl,rfl,rfl,by decide +kernel,rfl,by decide +kernel,by decide +kernel⟩
theorem anU:FnScope ["_law_year","_law_month"] ["_law_year","_law_month"] (aaC ag5):=⟨rfl,rfl,rfl,by decide +kernel,rfl,by decide +kernel,by decide +kernel⟩
theorem sc__law_date:FnScope ["_law_day","_law_rounds","_law_rest","_law_year","_law_month"] ["_law_day"] (aaC ahH):=⟨rfl,rfl,rfl,by decide +kernel,rfl,by decide +kernel,by decide +kernel⟩
theorem akU:FnScope ["_law_mask_here"] ["_law_mask_here"] (aaC afR):=⟨rfl,rfl,rfl,by decide +kernel,rfl,by decide +kernel,by decide +kernel⟩
theorem sc__law_shut:FnScope ["_law_row_here","_law_moment_here","_law_day","_law_rest","_law_year","_law_month","_law_date_here","_law_first_here"] ["_law_row_here","_law_moment_here"] (aaC ahM):=⟨rfl,rfl,rfl,by decide +kernel,rfl,by decide +kernel,by decide +kernel⟩
theorem sc__law_moment:FnScope ["_law_cell","_law_mixed","_law_far","_law_way","_law_near_here","_law_hundreds","_law_edge","_law_day","_law_time","_law_turn","_law_year","_law_moment_here"] ["_law_cell","_law_mixed"] (aaC afC):=⟨rfl,rfl,rfl,by decide +kernel,rfl,by decide +kernel,by decide +kernel⟩
theorem sc__law_good:FnScope ["_law_found","_law_row_here","_law_moment_here","_law_told","_law_due"] ["_law_found","_law_row_here","_law_moment_here"] (aaC ahB):=⟨rfl,rfl,rfl,by decide +kernel,rfl,by decide +kernel,by decide +kernel⟩
theorem sc_law:FnScope ["_law_script","_law_mixed","_law_text","_law_row_here","_law_found","_law_other","_law_later","_law_beside","_law_last_here","_law_hour","_law_k","_law_moment_here","_law_start","_law_one"] ["_law_script"] (aaC alK):=⟨rfl,rfl,rfl,by decide +kernel,rfl,by decide +kernel,by decide +kernel⟩
structure Fs(K:PySem.W.Frag)(mg:Str->Option Value)(C_Mark C_Numbers C_Last C_Near C_LastWork C_Weekdays C_Nth C_LastOne C_Row C_read_weekday_mark C_read_day_mark a_MONTH_LASTS a_BOUNDS a_BOUNDS_0 a_BOUNDS_1 a_BOUNDS_3:Addr)(t_ROUND_DAYS t_ROUND_YEARS t_LONG_PLACE t_DAY_MINUTES t_HOUR_MINUTES t_FIGURES t_MOST_STRIDE t_MOST_SIGNS t_MOST_ITEMS t_SATURDAY t_SUNDAY t_MOST_BACK t_MOST_DAY t_SUNDAY_TOO t_MOST_NTH t_MOST_MARKS t_ALL_WEEKDAYS t_LONG_LAST t_SHORT_YEAR t_MINUTE t_HOUR t_DAY t_MONTH t_WEEKDAY t_MOST_ROW_SIGNS t_NO_PLACE:Tok):Prop where
 c_Mark:Cd K mg "Mark" C_Mark
 i_Mark:PySem.W.findIn K (.ref C_Mark) "__init__"=some (some (.builtin "object.__init__"))
 c_Numbers:Cd K mg "Numbers" C_Numbers
 n_Numbers_mask:PySem.W.findIn K (.ref C_Numbers) "mask"=some none
 c_Last:Cd K mg "Last" C_Last
 n_Last_back:PySem.W.findIn K (.ref C_Last) "back"=some none
 c_Near:Cd K mg "Near" C_Near
 n_Near_day:PySem.W.findIn K (.ref C_Near) "day"=some none
 c_LastWork:Cd K mg "LastWork" C_LastWork
 i_LastWork:PySem.W.findIn K (.ref C_LastWork) "__init__"=some (some (.builtin "object.__init__"))
 c_Weekdays:Cd K mg "Weekdays" C_Weekdays
 n_Weekdays_mask:PySem.W.findIn K (.ref C_Weekdays) "mask"=some none
 c_Nth:Cd K mg "Nth" C_Nth
 n_Nth_weekday:PySem.W.findIn K (.ref C_Nth) "weekday"=some none
 n_Nth_many:PySem.W.findIn K (.ref C_Nth) "many"=some none
 c_LastOne:Cd K mg "LastOne" C_LastOne
 n_LastOne_weekday:PySem.W.findIn K (.ref C_LastOne) "weekday"=some none
 c_Row:Cd K mg "Row" C_Row
 n_Row_minute_mask:PySem.W.findIn K (.ref C_Row) "minute_mask"=some none
 n_Row_hour_mask:PySem.W.findIn K (.ref C_Row) "hour_mask"=some none
 n_Row_day_marks:PySem.W.findIn K (.ref C_Row) "day_marks"=some none
 n_Row_month_mask:PySem.W.findIn K (.ref C_Row) "month_mask"=some none
 n_Row_weekday_marks:PySem.W.findIn K (.ref C_Row) "weekday_marks"=some none
 n_Row_time_mask:PySem.W.findIn K (.ref C_Row) "time_mask"=some none
 m_read_weekday_mark:mg "read_weekday_mark"=some (.ref C_read_weekday_mark)
 m_read_day_mark:mg "read_day_mark"=some (.ref C_read_day_mark)
 m_MONTH_LASTS:mg "MONTH_LASTS"=some (.ref a_MONTH_LASTS)
 q_MONTH_LASTS:∀H,SqT K H a_MONTH_LASTS (([31,28,31,30,31,30,31,31,30,31,30,31]:List Int).map V.int)
 m_ROUND_DAYS:mg "ROUND_DAYS"=some (.int 146097 t_ROUND_DAYS)
 m_ROUND_YEARS:mg "ROUND_YEARS"=some (.int 400 t_ROUND_YEARS)
 m_LONG_PLACE:mg "LONG_PLACE"=some (.int 12 t_LONG_PLACE)
 m_DAY_MINUTES:mg "DAY_MINUTES"=some (.int 1440 t_DAY_MINUTES)
 m_HOUR_MINUTES:mg "HOUR_MINUTES"=some (.int 60 t_HOUR_MINUTES)
 m_FIGURES:mg "FIGURES"=some (.str (Tx [48,49,50,51,52,53,54,55,56,57]) t_FIGURES)
 m_MOST_STRIDE:mg "MOST_STRIDE"=some (.int 99 t_MOST_STRIDE)
 m_MOST_SIGNS:mg "MOST_SIGNS"=some (.int 300 t_MOST_SIGNS)
 m_MOST_ITEMS:mg "MOST_ITEMS"=some (.int 40 t_MOST_ITEMS)
 m_SATURDAY:mg "SATURDAY"=some (.int 6 t_SATURDAY)
 m_SUNDAY:mg "SUNDAY"=some (.int 0 t_SUNDAY)
 m_MOST_BACK:mg "MOST_BACK"=some (.int 30 t_MOST_BACK)
 m_MOST_DAY:mg "MOST_DAY"=some (.int 31 t_MOST_DAY)
 m_SUNDAY_TOO:mg "SUNDAY_TOO"=some (.int 7 t_SUNDAY_TOO)
 m_MOST_NTH:mg "MOST_NTH"=some (.int 5 t_MOST_NTH)
 m_MOST_MARKS:mg "MOST_MARKS"=some (.int 20 t_MOST_MARKS)
 m_ALL_WEEKDAYS:mg "ALL_WEEKDAYS"=some (.int 127 t_ALL_WEEKDAYS)
 m_LONG_LAST:mg "LONG_LAST"=some (.int 29 t_LONG_LAST)
 m_SHORT_YEAR:mg "SHORT_YEAR"=some (.int 1 t_SHORT_YEAR)
 m_MINUTE:mg "MINUTE"=some (.int 0 t_MINUTE)
 m_HOUR:mg "HOUR"=some (.int 1 t_HOUR)
 m_DAY:mg "DAY"=some (.int 2 t_DAY)
 m_MONTH:mg "MONTH"=some (.int 3 t_MONTH)
 m_WEEKDAY:mg "WEEKDAY"=some (.int 4 t_WEEKDAY)
 m_BOUNDS:mg "BOUNDS"=some (.ref a_BOUNDS)
 q_BOUNDS:KD K a_BOUNDS [(0,.ref a_BOUNDS_0),(1,.ref a_BOUNDS_1),(3,.ref a_BOUNDS_3)]
 q_BOUNDS_0:∀H,SqT K H a_BOUNDS_0 (([0,59]:List Int).map V.int)
 q_BOUNDS_1:∀H,SqT K H a_BOUNDS_1 (([0,23]:List Int).map V.int)
 q_BOUNDS_3:∀H,SqT K H a_BOUNDS_3 (([1,12]:List Int).map V.int)
 m_MOST_ROW_SIGNS:mg "MOST_ROW_SIGNS"=some (.int 1600 t_MOST_ROW_SIGNS)
 m_NO_PLACE:mg "NO_PLACE"=some (.int 5 t_NO_PLACE)
 z_int:mg "int"=none
 z_isinstance:mg "isinstance"=none
 z_bool:mg "bool"=none
 z_range:mg "range"=none
 z_sum:mg "sum"=none
 z_all:mg "all"=none
 z_list:mg "list"=none
 z_len:mg "len"=none
 z_str:mg "str"=none
 z_enumerate:mg "enumerate"=none
 z_abs:mg "abs"=none
 z_set:mg "set"=none
 z_sorted:mg "sorted"=none
 z_divmod:mg "divmod"=none
 z_min:mg "min"=none
 z_max:mg "max"=none
 F_is_long:Fn K mg "is_long" alX ["year"]
 F_multiples_before:Fn K mg "multiples_before" acG ["year","step"]
 F_days_before:Fn K mg "days_before" aeY ["year"]
 F_last_of:Fn K mg "last_of" alQ ["year","month"]
 F_is_whole:Fn K mg "is_whole" ajR ["thing"]
 F_is_date:Fn K mg "is_date" alF ["year","month","day"]
 F_day_of:Fn K mg "day_of" apV ["year","month","day"]
 F_year_of:Fn K mg "year_of" ak8 ["day"]
 F_date_of:Fn K mg "date_of" al0 ["day"]
 F_weekday:Fn K mg "weekday" alI ["day"]
 F_kind_from:Fn K mg "kind_from" ahT ["year","month","day"]
 F_kind_of:Fn K mg "kind_of" alT ["year","month"]
 F_parted:Fn K mg "parted" aoU ["moment"]
 F_all_figures:Fn K mg "all_figures" ae5 ["text"]
 F_is_written:Fn K mg "is_written" agF ["text"]
 F_has:Fn K mg "has" aD2 ["mask","number"]
 F_mask_of:Fn K mg "mask_of" alL ["numbers"]
 F_numbers_in:Fn K mg "numbers_in" af2 ["mask"]
 F_run_mask:Fn K mg "run_mask" ajX ["first","last","stride"]
 F_read_number:Fn K mg "read_number" ae8 ["text","low","high"]
 F_read_run:Fn K mg "read_run" ajC ["text","low","high"]
 F_read_strided:Fn K mg "read_strided" aeB ["run_text","stride_text","low","high"]
 F_read_item:Fn K mg "read_item" ahE ["item","low","high"]
 F_read_field:Fn K mg "read_field" af1 ["text","low","high"]
 F_weekday_at:Fn K mg "weekday_at" agD ["day","first"]
 F_all_days:Fn K mg "all_days" ajE ["last"]
 F_nearest_work:Fn K mg "nearest_work" adU ["day","last","first"]
 F_first_one:Fn K mg "first_one" ahL ["weekday","first"]
 F_Mark_days:FnM K C_Mark "days" "Mark.days" ahS ["self","last","first"]
 F_Numbers___init__:FnM K C_Numbers "__init__" "Numbers.__init__" acC ["self","mask"]
 F_Numbers_days:FnM K C_Numbers "days" "Numbers.days" ad9 ["self","last","first"]
 F_Last___init__:FnMD K C_Last "__init__" "Last.__init__" aaX ["self","back"] [.int 0]
 F_Last_days:FnM K C_Last "days" "Last.days" ahW ["self","last","first"]
 F_Near___init__:FnM K C_Near "__init__" "Near.__init__" adP ["self","day"]
 F_Near_days:FnM K C_Near "days" "Near.days" ahQ ["self","last","first"]
 F_LastWork_days:FnM K C_LastWork "days" "LastWork.days" adI ["self","last","first"]
 F_Weekdays___init__:FnM K C_Weekdays "__init__" "Weekdays.__init__" ab1 ["self","mask"]
 F_Weekdays_days:FnM K C_Weekdays "days" "Weekdays.days" adK ["self","last","first"]
 F_Nth___init__:FnM K C_Nth "__init__" "Nth.__init__" adX ["self","weekday","many"]
 F_Nth_days:FnM K C_Nth "days" "Nth.days" akH ["self","last","first"]
 F_LastOne___init__:FnM K C_LastOne "__init__" "LastOne.__init__" ab7 ["self","weekday"]
 F_LastOne_days:FnM K C_LastOne "days" "LastOne.days" aeC ["self","last","first"]
 F_any_days:Fn K mg "any_days" aiY ["marks","last","first"]
 F_read_day_mark:Fn K mg "read_day_mark" adO ["item"]
 F_read_weekday:Fn K mg "read_weekday" aeG ["text"]
 F_read_weekday_mark:Fn K mg "read_weekday_mark" ab2 ["item"]
 F_read_items:Fn K mg "read_items" agC ["text","low","high","read_mark"]
 F_read_days:Fn K mg "read_days" ahI ["text"]
 F_read_weekdays:Fn K mg "read_weekdays" adH ["text"]
 F_month_at:Fn K mg "month_at" ajF ["kind"]
 F_times_of:Fn K mg "times_of" ai6 ["hours","minutes"]
 F_days_by:Fn K mg "days_by" alD ["days","weekdays","last","first"]
 F_Row___init__:FnM K C_Row "__init__" "Row.__init__" adZ ["self","fields"]
 F_Row_days_in:FnM K C_Row "days_in" "Row.days_in" ae3 ["self","kind"]
 F_read_word:Fn K mg "read_word" ahP ["word","place"]
 F_read_at:Fn K mg "read_at" alG ["word","place"]
 F_read_row:Fn K mg "read_row" ajH ["text"]
 F__law_cell_at:Fn K mg "_law_cell_at" aeD ["_law_script","_law_k"]
 F__law_stir:Fn K mg "_law_stir" ag8 ["_law_number"]
 F__law_digits:Fn K mg "_law_digits" ae2 ["_law_cell","_law_sizes","_law_mixed"]
 F__law_item:Fn K mg "_law_item" ahX ["_law_way","_law_first_here","_law_last_here","_law_step","_law_bounds"]
 F__law_mask:Fn K mg "_law_mask" ahU ["_law_numbers"]
 F__law_spec:Fn K mg "_law_spec" ag9 ["_law_parts","_law_week"]
 F__law_working:Fn K mg "_law_working" adY ["_law_last_here","_law_first_here"]
 F__law_near:Fn K mg "_law_near" ag6 ["_law_day","_law_last_here","_law_first_here"]
 F__law_on:Fn K mg "_law_on" alU ["_law_which","_law_last_here","_law_first_here"]
 F__law_days:Fn K mg "_law_days" ag7 ["_law_spec_here","_law_last_here","_law_first_here","_law_week"]
 F__law_field:Fn K mg "_law_field" afT ["_law_cell","_law_low","_law_high","_law_mixed"]
 F__law_day_field:Fn K mg "_law_day_field" acT ["_law_cell","_law_week","_law_mixed"]
 F__law_days_in:Fn K mg "_law_days_in" adW ["_law_row_here","_law_month","_law_last_here","_law_first_here"]
 F__law_row:Fn K mg "_law_row" ajN ["_law_cells_here","_law_mixed"]
 F__law_cells:Fn K mg "_law_cells" afV ["_law_script","_law_at"]
 F_Row_shut_by:FnM K C_Row "shut_by" "Row.shut_by" ae0 ["self","moment"]
 F__law_long:Fn K mg "_law_long" ahO ["_law_year"]
 F__law_before:Fn K mg "_law_before" ae9 ["_law_year"]
 F__law_last:Fn K mg "_law_last" ag5 ["_law_year","_law_month"]
 F__law_date:Fn K mg "_law_date" ahH ["_law_day"]
 F__law_first:Fn K mg "_law_first" afR ["_law_mask_here"]
 F__law_shut:Fn K mg "_law_shut" ahM ["_law_row_here","_law_moment_here"]
 F__law_moment:Fn K mg "_law_moment" afC ["_law_cell","_law_mixed"]
 F__law_good:Fn K mg "_law_good" ahB ["_law_found","_law_row_here","_law_moment_here"]
section
set_option maxHeartbeats 4000000
variable{P:Program}{w:World}{K:PySem.W.Frag}{mg:Str->Option Value}{base:Heap}{C_Mark C_Numbers C_Last C_Near C_LastWork C_Weekdays C_Nth C_LastOne C_Row C_read_weekday_mark C_read_day_mark a_MONTH_LASTS a_BOUNDS a_BOUNDS_0 a_BOUNDS_1 a_BOUNDS_3:Addr}{t_ROUND_DAYS t_ROUND_YEARS t_LONG_PLACE t_DAY_MINUTES t_HOUR_MINUTES t_FIGURES t_MOST_STRIDE t_MOST_SIGNS t_MOST_ITEMS t_SATURDAY t_SUNDAY t_MOST_BACK t_MOST_DAY t_SUNDAY_TOO t_MOST_NTH t_MOST_MARKS t_ALL_WEEKDAYS t_LONG_LAST t_SHORT_YEAR t_MINUTE t_HOUR t_DAY t_MONTH t_WEEKDAY t_MOST_ROW_SIGNS t_NO_PLACE:Tok}(ZZ:Fs K mg C_Mark C_Numbers C_Last C_Near C_LastWork C_Weekdays C_Nth C_LastOne C_Row C_read_weekday_mark C_read_day_mark a_MONTH_LASTS a_BOUNDS a_BOUNDS_0 a_BOUNDS_1 a_BOUNDS_3 t_ROUND_DAYS t_ROUND_YEARS t_LONG_PLACE t_DAY_MINUTES t_HOUR_MINUTES t_FIGURES t_MOST_STRIDE t_MOST_SIGNS t_MOST_ITEMS t_SATURDAY t_SUNDAY t_MOST_BACK t_MOST_DAY t_SUNDAY_TOO t_MOST_NTH t_MOST_MARKS t_ALL_WEEKDAYS t_LONG_LAST t_SHORT_YEAR t_MINUTE t_HOUR t_DAY t_MONTH t_WEEKDAY t_MOST_ROW_SIGNS t_NO_PLACE)
include ZZ
theorem ajS:Df P w K mg base "is_long" 1 ["year"] (aqO K):=by
 refine ZZ.F_is_long.dfs aqR (fun vs H Q E h=>?_) (fun f cdv A outer s H vs Q E hr h=>?_)
 ·obtain⟨y,rfl,q⟩:=h
  rfl
 obtain⟨y,rfl,q⟩:=h
 refine⟨_,(ss1 (aaF (aqP (adF oEq (eOp aaW (v_ 0) eI) eI) (ajK (eOr (adF oNe (eOp aaW (v_ 0) eI) eI) (ajK (adF oEq (eOp aaW (v_ 0) eI) eI))))))),?_⟩
 refine⟨_,rfl,_,_,rfl,rfl,(by show (0:Int)<4;decide),rfl,_,rfl,?_⟩
 refine ifI (fun c1=>?_) (fun c1=>?_)
 ·refine⟨_,rfl,_,_,rfl,rfl,(by show (0:Int)<100;decide),rfl,_,rfl,?_⟩
  refine aLO (fun c2=>?_) (fun c2=>?_)
  ·rw[agB ⟨c1,.inl c2⟩] at q
   exact q
  ·refine⟨_,rfl,_,_,rfl,rfl,(by show (0:Int)<400;decide),rfl,?_⟩
   by_cases c3:y%400=0
   ·rw[agB ⟨c1,.inr c3⟩] at q
    show Q (.bl (decide (V.int (y%400)=V.int 0))) H
    rw[decide_eq_true (int_eq.mpr c3)]
    exact q
   ·rw[afX (by omega)] at q
    show Q (.bl (decide (V.int (y%400)=V.int 0))) H
    rw[decide_eq_false fun e=>c3 (int_eq.mp e)]
    exact q
 ·rw[afX (by omega)] at q
  exact q
theorem abG:Df P w K mg base "multiples_before" 1 ["year","step"] (aeR K):=by
 refine ZZ.F_multiples_before.dfs aeT (fun vs H Q E h=>?_) (fun f cdv A outer s H vs Q E hr h=>?_)
 ·obtain⟨y,z,rfl,hz,q⟩:=h
  rfl
 obtain⟨y,z,rfl,hz,q⟩:=h
 refine⟨_,(ss1 (aaF (eOp afQ (eOp aa9 (eOp aaL (v_ 0) (v_ 1)) eI) (v_ 1)))),?_⟩
 refine⟨_,rfl,_,rfl,_,_,rfl,rfl,_,_,rfl,rfl,_,rfl,_,_,rfl,rfl,hz,?_⟩
 exact q
theorem acF:Df P w K mg base "days_before" 2 ["year"] (ai5 K):=by
 refine ZZ.F_days_before.dfs sc_days_before (fun vs H Q E h=>?_) (fun f cdv A outer s H vs Q E hr h=>?_)
 ·obtain⟨y,rfl,q⟩:=h
  rfl
 obtain⟨y,rfl,q⟩:=h
 refine⟨_,(ssC (aaI 1 (eOp aaL (eOp aa9 (eD (abG ZZ) hr (aC (v_ 0) (aC eI aN))) (eD (abG ZZ) hr (aC (v_ 0) (aC eI aN)))) (eD (abG ZZ) hr (aC (v_ 0) (aC eI aN)))) sc_days_before.nd)
   (ss1 (aaF (eOp aaL (eOp acS eI (v_ 0)) (v_ 1))))),?_⟩
 refine⟨_,rfl,_,_,rfl,⟨by decide,by decide⟩,_,rfl,_,_,rfl,⟨by decide,by decide⟩,_,_,rfl,rfl,_,rfl,_,_,rfl,⟨by decide,by decide⟩,_,_,rfl,rfl,?_⟩
 refine⟨_,rfl,_,_,rfl,rfl,.inl ⟨by decide,by decide⟩,_,rfl,_,_,rfl,rfl,?_⟩
 exact q
theorem acA:Df P w K mg base "last_of" 2 ["year","month"] (aqG K):=by
 refine ZZ.F_last_of.dfs aqQ (fun vs H Q E h=>?_) (fun f cdv A outer s H vs Q E hr h=>?_)
 ·obtain⟨y,m,rfl,⟨h1,h2⟩,q⟩:=h
  rfl
 obtain⟨y,m,rfl,⟨h1,h2⟩,q⟩:=h
 refine⟨_,(ssC (sIf (tW (aoA (tCm oEq (v_ 1) eI) (ajO (tVa (eD (ajS ZZ) hr (aC (v_ 0) aN)))))) (ss1 (aaF eI)) ssN)
   (ss1 (aaF (eIx xT (eGl (v:=.ref a_MONTH_LASTS) ZZ.m_MONTH_LASTS rfl) (eOp aa9 (v_ 1) eI))))),?_⟩
 refine⟨_,rfl,rfl,_,rfl,?_⟩
 refine ifI (fun c1=>?_) (fun c1=>?_)
 ·refine⟨_,rfl,_,rfl,_,rfl,?_⟩
  by_cases c2:aa6 y=true
  ·have e:aaE y m=29:=by unfold aaE ab8;rw[if_pos c1,if_pos c2];rfl
   rw[e] at q
   show if aa6 y=true then _ else _
   rw[if_pos c2]
   exact q
  ·have e:aaE y m=lasts.getD (m-1).toNat 0:=by unfold aaE ab8;rw[if_pos c1,if_neg c2,c1];rfl
   rw[e] at q
   show if aa6 y=true then _ else _
   rw[if_neg c2]
   refine⟨_,rfl,_,_,rfl,rfl,a_MONTH_LASTS,_,_,_,rfl,rfl,ZZ.q_MONTH_LASTS H,ai4 h1 h2,?_⟩
   exact q
 ·have e:aaE y m=lasts.getD (m-1).toNat 0:=by unfold aaE;rw[if_neg c1]
  rw[e] at q
  refine aaU ?_
  refine⟨_,rfl,_,_,rfl,rfl,a_MONTH_LASTS,_,_,_,rfl,rfl,ZZ.q_MONTH_LASTS H,ai4 h1 h2,?_⟩
  exact q
theorem adS:Df P w K mg base "is_whole" 1 ["thing"] (aoL K):=by
 refine ZZ.F_is_whole.dfs aoO (fun vs H Q E h=>?_) (fun f cdv A outer s H vs Q E hr h=>?_)
 ·obtain⟨i,rfl,q⟩:=h
  rfl
 obtain⟨i,rfl,q⟩:=h
 refine⟨_,(ss1 (aaF (aqP (eCB cII ZZ.z_isinstance PyProof.Rows.boot_isinstance (aC (v_ 0) (aC (eTy ZZ.z_int PyProof.Rows.boot_int) aN))) (ajK (eNot (eCB cIB ZZ.z_isinstance PyProof.Rows.boot_isinstance (aC (v_ 0) (aC (eTy ZZ.z_bool PyProof.Rows.boot_bool) aN)))))))),?_⟩
 refine⟨_,rfl,_,rfl,_,rfl,?_⟩
 refine aa8 ?_
 refine⟨_,rfl,_,rfl,_,rfl,?_⟩
 exact q
theorem aq7:Df P w K mg base "is_date" 3 ["year","month","day"] (aqH K):=by
 refine ZZ.F_is_date.dfs ap3 (fun vs H Q E h=>?_) (fun f cdv A outer s H vs Q E hr h=>?_)
 ·obtain⟨y,m,k,rfl,⟨hm,k1,k2⟩,q⟩:=h
  rfl
 obtain⟨y,m,k,rfl,⟨hm,k1,k2⟩,q⟩:=h
 refine⟨_,(ssC (sIf (tNo (tW (aoA (tVa (eD (adS ZZ) hr (aC (v_ 0) aN))) (aoA (tVa (eD (adS ZZ) hr (aC (v_ 1) aN))) (ajO (tVa (eD (adS ZZ) hr (aC (v_ 2) aN)))))))) (ss1 (aaF eB)) ssN)
   (ss1 (aaF (aqP (eCh oLe oLe eI (v_ 1) eI) (ajK (eCh oLe oLe eI (v_ 2) (eD (acA ZZ) hr (aC (v_ 0) (aC (v_ 1) aN))))))))),?_⟩
 refine⟨_,rfl,_,rfl,_,rfl,aa8 ⟨_,rfl,_,rfl,_,rfl,aa8 ⟨_,rfl,_,rfl,_,rfl,aaU ?_⟩⟩⟩
 refine⟨_,rfl,_,_,rfl,rfl,_,rfl,?_⟩
 rw[decide_eq_true hm.1]
 refine aa8 ⟨_,_,rfl,rfl,_,rfl,?_⟩
 rw[decide_eq_true hm.2]
 refine aa8 ⟨_,rfl,_,_,rfl,rfl,_,rfl,?_⟩
 rw[decide_eq_true k1]
 refine aa8 ⟨_,rfl,_,rfl,_,_,rfl,hm,_,_,rfl,rfl,?_⟩
 show Q (.bl (decide (k<=aaE y m))) H
 rw[decide_eq_true k2]
 exact q
theorem atE:Df P w K mg base "day_of" 4 ["year","month","day"] (asT K):=by
 refine ZZ.F_day_of.dfs sc_day_of (fun vs H Q E h=>?_) (fun f cdv A outer s H vs Q E hr h=>?_)
 ·obtain⟨y,m,k,rfl,hv,q⟩:=h
  rfl
 obtain⟨y,m,k,rfl,hv,q⟩:=h
 refine⟨_,(ssC (sIf (tNo (tVa (eD (aq7 ZZ) hr (aC (v_ 0) (aC (v_ 1) (aC (v_ 2) aN)))))) (ss1 amD) ssN)
   (ssC (aaI 3 (eCB aO8 ZZ.z_sum PyProof.Rows.boot_sum (aC (acO ["year"] [0] (iR2 ZZ.z_range (aC eI (aC (v_ 1) aN))) (fun _ _ _ _ _ _=>fsN) (fun _ _ _ _ _ _=>(eD (acA ZZ) hr (aC (v_ 1) (aC (v_ 0) aN))))) aN)) sc_day_of.nd)
   (ss1 (aaF (eOp aa9 (eOp aaL (eOp aaL (eD (acF ZZ) hr (aC (v_ 0) aN)) (v_ 3)) (v_ 2)) eI))))),?_⟩
 obtain⟨⟨hm1,hm2⟩,hk⟩:=id hv
 refine⟨_,rfl,_,rfl,_,rfl,_,_,_,rfl,hv,_,rfl,aaU ?_⟩
 refine⟨_,rfl,_,_,rfl,⟨by decide,by decide,by omega,by omega⟩,aa7 (fun i l=>l=(List.range i).map fun i:Nat=>V.int (aaE y (1+(i:Int)))) (by show (m-1).toNat<=sizeLine;rw[sizeLine_eq];omega) rfl ?_ ?_⟩
 ·intro i l D H2 E' F' hi hR hD s2 hl hE hF
  subst hR
  exact⟨_,rfl,_,rfl,_,_,rfl,⟨by omega,by omega⟩,hE _ _ (Same.refl _) (alH _ _).symm⟩
 ·intro D H2 l hR hD s2 hl
  subst hR
  refine⟨D,(List.range (m-1).toNat).map fun i:Nat=>aaE y (1+(i:Int)),rfl,SqL.of (by rw[hl,List.map_map];rfl),?_⟩
  refine⟨_,rfl,_,rfl,_,rfl,_,_,rfl,rfl,_,rfl,_,_,rfl,rfl,_,_,rfl,rfl,?_⟩
  have e:((List.range (m-1).toNat).map fun i:Nat=>aaE y (1+(i:Int))).sum=ahead y m:=arO y _
  rw[e]
  exact q _ s2
theorem aqI:Df P w K mg base "year_of" 3 ["day"] (aq3 K):=by
 refine ZZ.F_year_of.dfs sc_year_of (fun vs H Q E h=>?_) (fun f cdv A outer s H vs Q E hr h=>?_)
 ·obtain⟨d,rfl,q⟩:=h
  rfl
 obtain⟨d,rfl,q⟩:=h
 refine⟨_,(ssC (aaI 1 (eOp aaL (eOp acS (eOp afQ (v_ 0) (eGl (v:=.int 146097) ZZ.m_ROUND_DAYS ⟨_,rfl⟩)) (eGl (v:=.int 400) ZZ.m_ROUND_YEARS ⟨_,rfl⟩)) (eOp afQ (eOp aaW (v_ 0) (eGl (v:=.int 146097) ZZ.m_ROUND_DAYS ⟨_,rfl⟩)) eI)) sc_year_of.nd)
   (ssC (sWh (tCm oLe (eD (acF ZZ) hr (aC (eOp aaL (v_ 1) eI) aN)) (v_ 0)) (ss1 (aaI 1 (eOp aaL (v_ 1) eI) sc_year_of.nd)) PassesOwn.never)
   (ss1 (aaF (v_ 1))))),?_⟩
 refine⟨_,rfl,_,_,rfl,rfl,⟨by decide,by decide⟩,_,_,rfl,rfl,.inr ⟨by decide,by decide⟩,_,rfl,_,_,rfl,rfl,(by show (0:Int)<146097;decide),_,_,rfl,rfl,⟨by decide,by decide⟩,_,_,rfl,rfl,?_⟩
 refine aeL (fun σ H'=>H'=H/\∃y:Int,σ=[some (.int d),some (.int y)]/\db y<=d) (fun σ _=>match σ with | [_,some (.int y)]=>(d-db y).toNat | _=>0) ?_ ?_
 ·refine⟨rfl,_,rfl,?_⟩
  have h1:=av2 (q:=d / 146097) (z:=d%146097 / 366) (by omega)
  omega
 ·rintro σ H' ⟨rfl,y,rfl,hy⟩
  refine⟨_,rfl,_,_,rfl,rfl,_,rfl,_,rfl,_,_,rfl,rfl,_,rfl,?_⟩
  refine ifD (fun c=>?_) (fun c=>?_)
  ·refine⟨_,fun _ _ h=>h,?_⟩
   refine⟨_,rfl,_,_,rfl,rfl,?_⟩
   have h1:=af8 y
   have h2:=ajG y
   exact⟨_,(by show (d-db (y+1)).toNat<(d-db y).toNat;omega),rfl,rfl,_,rfl,c⟩
  ·exact⟨_,rfl,q y hy (by omega)⟩
theorem aqK:Df P w K mg base "date_of" 4 ["day"] (arH K):=by
 refine ZZ.F_date_of.dfs sc_date_of (fun vs H Q E h=>?_) (fun f cdv A outer s H vs Q E hr h=>?_)
 ·obtain⟨d,rfl,q⟩:=h
  rfl
 obtain⟨d,rfl,q⟩:=h
 refine⟨_,(ssC (aaI 1 (eD (aqI ZZ) hr (aC (v_ 0) aN)) sc_date_of.nd)
   (ssC (aaI 2 eI sc_date_of.nd)
   (ssC (aaI 3 (eOp aa9 (v_ 0) (eD (acF ZZ) hr (aC (v_ 1) aN))) sc_date_of.nd)
   (ssC (sWh (tCm oGe (v_ 3) (eD (acA ZZ) hr (aC (v_ 1) (aC (v_ 2) aN)))) (ssC (aaI 3 (eOp aa9 (v_ 3) (eD (acA ZZ) hr (aC (v_ 1) (aC (v_ 2) aN)))) sc_date_of.nd)
   (ss1 (aaI 2 (eOp aaL (v_ 2) eI) sc_date_of.nd))) PassesOwn.never)
   (ss1 (aaF (aa5 (aC (v_ 1) (aC (v_ 2) (aC (eOp aaL (v_ 3) eI) aN)))))))))),?_⟩
 refine⟨_,rfl,_,rfl,fun y hy1 hy2=>?_⟩
 refine⟨_,rfl,_,rfl,_,rfl,_,_,rfl,rfl,?_⟩
 refine aeL (fun σ H'=>H'=H/\∃m r:Int,σ=[some (.int d),some (.int y),some (.int m),some (.int r)]/\(1<=m/\m<=12)/\0<=r/\db y+ahead y m+r=d) (fun σ _=>match σ with | [_,_,some (.int m),_]=>(13-m).toNat | _=>0) ?_ ?_
 ·have a4:ahead y 1=0:=rfl
  exact⟨rfl,1,_,rfl,⟨by decide,by decide⟩,by omega,by omega⟩
 ·rintro σ H' ⟨rfl,m,r,rfl,hm,hr0,he⟩
  refine⟨_,rfl,_,rfl,_,rfl,_,_,rfl,hm,_,_,rfl,rfl,_,rfl,?_⟩
  have a1:=afP (y:=y) hm.1
  refine ifD (fun c=>?_) (fun c=>?_)
  ·have a2:=aj0 y
   have a3:=af8 y
   have hm12:m<12:=by
    rcases Int.lt_or_le m 12 with z | z
    ·exact z
    ·have e12:m=12:=by omega
     subst e12
     have a5:ahead y (12+1)=ahead y 13:=rfl
     omega
   refine⟨_,fun _ _ h=>h,?_⟩
   refine⟨_,rfl,_,rfl,_,rfl,_,_,rfl,hm,_,_,rfl,rfl,?_⟩
   refine⟨_,rfl,_,_,rfl,rfl,?_⟩
   exact⟨_,(by show (13-(m+1)).toNat<(13-m).toNat;omega),rfl,rfl,m+1,r-aaE y m,rfl,⟨by omega,by omega⟩,by omega,by omega⟩
  ·refine⟨_,rfl,_,rfl,_,rfl,_,_,rfl,rfl,(by show 3<=sizeLine;decide),fun p hp=>?_⟩
   exact q y m (r+1) p _ ⟨hm,by omega,by omega⟩ (by unfold acJ;omega) (aaB hp _) aaA
theorem aqJ:Df P w K mg base "weekday" 1 ["day"] (aqT K):=by
 refine ZZ.F_weekday.dfs arF (fun vs H Q E h=>?_) (fun f cdv A outer s H vs Q E hr h=>?_)
 ·obtain⟨d,rfl,q⟩:=h
  rfl
 obtain⟨d,rfl,q⟩:=h
 refine⟨_,(ss1 (aaF (eOp aaW (eOp aaL (v_ 0) eI) eI))),?_⟩
 exact⟨_,rfl,_,_,rfl,rfl,_,_,rfl,rfl,(by show (0:Int)<7;decide),q⟩
theorem anT:Df P w K mg base "kind_from" 2 ["year","month","day"] (al1 K):=by
 refine ZZ.F_kind_from.dfs sc_kind_from (fun vs H Q E h=>?_) (fun f cdv A outer s H vs Q E hr h=>?_)
 ·obtain⟨y,m,d,rfl,q⟩:=h
  rfl
 obtain⟨y,m,d,rfl,q⟩:=h
 refine⟨_,(ssC (aaI 3 (eIf (tW (aoA (tCm oEq (v_ 1) eI) (ajO (tVa (eD (ajS ZZ) hr (aC (v_ 0) aN)))))) (eGl (v:=.int 12) ZZ.m_LONG_PLACE ⟨_,rfl⟩) (eOp aa9 (v_ 1) eI)) sc_kind_from.nd)
   (ss1 (aaF (eOp aaL (eOp acS eI (v_ 3)) (eD (aqJ ZZ) hr (aC (v_ 2) aN)))))),?_⟩
 have q':∀pl:Int,plc y m=pl->Q (.int (7*pl+(d+6)%7)) H:=fun pl e=>by
  rw[←e]
  exact q
 refine⟨_,rfl,rfl,_,rfl,?_⟩
 refine ifI (fun c1=>⟨_,rfl,_,rfl,_,rfl,?_⟩) (fun c1=>aaU ?_)
 ·by_cases c2:aa6 y=true
  ·show if aa6 y=true then _ else _
   rw[if_pos c2]
   exact⟨_,rfl,_,_,rfl,rfl,.inl ⟨by decide,by decide⟩,_,rfl,_,rfl,_,_,rfl,rfl,q' _ (by unfold plc;rw[if_pos ⟨c1,c2⟩])⟩
  ·show if aa6 y=true then _ else _
   rw[if_neg c2]
   exact⟨_,rfl,_,_,rfl,rfl,_,rfl,_,_,rfl,rfl,.inl ⟨by decide,by decide⟩,_,rfl,_,rfl,_,_,rfl,rfl,q' _ (by unfold plc;rw[if_neg fun z=>c2 z.2])⟩
 ·exact⟨_,rfl,_,_,rfl,rfl,_,rfl,_,_,rfl,rfl,.inl ⟨by decide,by decide⟩,_,rfl,_,rfl,_,_,rfl,rfl,q' _ (by unfold plc;rw[if_neg fun z=>c1 z.1])⟩
theorem apZ:Df P w K mg base "kind_of" 5 ["year","month"] (aqA K):=by
 refine ZZ.F_kind_of.dfs aq9 (fun vs H Q E h=>?_) (fun f cdv A outer s H vs Q E hr h=>?_)
 ·obtain⟨y,m,rfl,hm,q⟩:=h
  rfl
 obtain⟨y,m,rfl,hm,q⟩:=h
 refine⟨_,(ss1 (aaF (eD (anT ZZ) hr (aC (v_ 0) (aC (v_ 1) (aC (eD (atE ZZ) hr (aC (v_ 0) (aC (v_ 1) (aC eI aN)))) aN)))))),?_⟩
 have hl1:1<=aaE y m:=by have:=alY (y:=y) hm.1 hm.2;omega
 have e6:db y+ahead y m+1-1+6=db y+ahead y m+6:=by omega
 refine⟨_,rfl,_,rfl,_,rfl,_,rfl,_,_,_,rfl,⟨hm,by decide,hl1⟩,fun H' s'=>⟨_,_,_,rfl,?_⟩⟩
 rw[e6]
 exact q H' s'
theorem atV:Df P w K mg base "parted" 1 ["moment"] (atC K):=by
 refine ZZ.F_parted.dfs sc_parted (fun vs H Q E h=>?_) (fun f cdv A outer s H vs Q E hr h=>?_)
 ·obtain⟨mo,rfl,q⟩:=h
  rfl
 obtain⟨mo,rfl,q⟩:=h
 refine⟨_,(ssC (aaI 1 (eOp aaW (v_ 0) (eGl (v:=.int 1440) ZZ.m_DAY_MINUTES ⟨_,rfl⟩)) sc_parted.nd)
   (ss1 (aaF (aa5 (aC (eOp afQ (v_ 0) (eGl (v:=.int 1440) ZZ.m_DAY_MINUTES ⟨_,rfl⟩)) (aC (eOp afQ (v_ 1) (eGl (v:=.int 60) ZZ.m_HOUR_MINUTES ⟨_,rfl⟩)) (aC (eOp aaW (v_ 1) (eGl (v:=.int 60) ZZ.m_HOUR_MINUTES ⟨_,rfl⟩)) aN))))))),?_⟩
 refine⟨_,rfl,_,_,rfl,rfl,(by show (0:Int)<1440;decide),?_⟩
 exact⟨_,rfl,_,_,rfl,rfl,⟨by decide,by decide⟩,_,rfl,_,_,rfl,rfl,⟨by decide,by decide⟩,_,rfl,_,_,rfl,rfl,(by show (0:Int)<60;decide),(by show 3<=sizeLine;decide),fun p hp=>q p _ (aaB hp _) aaA⟩
theorem ajW:Df P w K mg base "all_figures" 1 ["text"] (aj1 K):=by
 refine ZZ.F_all_figures.dfs akG (fun vs H Q E h=>?_) (fun f cdv A outer s H vs Q E hr h=>?_)
 ·obtain⟨l,rfl,hl,q⟩:=h
  rfl
 obtain⟨l,rfl,hl,q⟩:=h
 refine⟨_,(ss1 (aaF (aqP (adF oNe (v_ 0) (eSx [])) (ajK (eCB cAll ZZ.z_all boot_all (aC (acO [] [] (iX (v_ 0)) (fun _ _ _ _ _ _=>fsN) (fun _ _ _ _ _ _=>(adF oInX (v_ 0) (eGl (v:=.str (Tx [48,49,50,51,52,53,54,55,56,57])) ZZ.m_FIGURES ⟨_,rfl⟩)))) aN)))))),?_⟩
 refine⟨_,rfl,rfl,_,rfl,?_⟩
 rw[av1 l []]
 by_cases c:l=[]
 ·rw[decide_eq_true c]
  have e:al8 l=false:=by unfold al8;rw[decide_eq_true c];rfl
  rw[e] at q
  exact aaU (q H (Same.refl H))
 ·rw[decide_eq_false c]
  have e:al8 l=l.all ae4:=by unfold al8;rw[decide_eq_false c];rfl
  rw[e] at q
  refine aa8 ⟨_,rfl,Tx l,rfl,auJ (xs:=l) (fun i z=>z=((l.take i).map ae4).map V.bl) (by rw[sizeLine_eq];omega) rfl ?_ ?_⟩
  ·intro i ch z D H2 E' F' hv hR hD s2 hz hE hF
   subst hR
   refine⟨_,rfl,ch,aJ6,rfl,rfl,?_⟩
   rw[au3]
   exact hE _ _ (Same.refl _) (by rw[List.take_succ,hv,List.map_append,List.map_append];rfl)
  ·intro D H2 z hR hD s2 hz
   subst hR
   rw[List.take_length] at hz
   refine⟨D,l.map ae4,rfl,SqL.of hz,?_⟩
   rw[List.all_map]
   exact q H2 s2
theorem ae6:Df P w K mg base "is_written" 2 ["text"] (akP K):=by
 refine ZZ.F_is_written.dfs akW (fun vs H Q E h=>?_) (fun f cdv A outer s H vs Q E hr h=>?_)
 ·obtain⟨l,rfl,hl,q⟩:=h
  rfl
 obtain⟨l,rfl,hl,q⟩:=h
 refine⟨_,(ss1 (aaF (aqP (eD (ajW ZZ) hr (aC (v_ 0) aN)) (ajK (eOr (adF oEq (v_ 0) (eSx [48])) (ajK (adF oNe (eIx xX (v_ 0) eI) (eSx [48])))))))),?_⟩
 refine⟨_,rfl,l,rfl,hl,fun H1 s1=>⟨_,rfl,?_⟩⟩
 refine if2 (fun c=>?_) (fun c=>?_)
 ·have hne:l≠[]:=fun e=>by
   unfold al8 at c
   rw[decide_eq_true e] at c
   exact absurd (show false=true from c) Bool.false_ne_true
  refine⟨_,rfl,rfl,_,rfl,?_⟩
  rw[av1 l [48]]
  by_cases c2:l=[48]
  ·rw[decide_eq_true c2]
   have e:isW l=true:=by unfold isW;rw[c,decide_eq_true c2];rfl
   rw[e] at q
   exact aa8 (q H1 s1)
  ·rw[decide_eq_false c2]
   obtain⟨x,r,rfl⟩:∃x r,l=x::r:=by
    cases l with
    |nil=>exact absurd rfl hne
    |cons x r=>exact⟨x,r,rfl⟩
   refine aaU ⟨_,rfl,x::r,0,x,rfl,rfl,(by rw[sizeLine_eq];omega),(show atI (x::r) ((0:Nat):Int)=some x from af7 rfl),rfl,?_⟩
   rw[av1 [x] [48]]
   have e:isW (x::r)= !decide ([x]=[48]):=by
    unfold isW
    rw[c,decide_eq_false c2]
    show (!decide (x=48))=_
    rw[decide_eq_decide.mpr (show x=48↔[x]=[48] by simp)]
   rw[e] at q
   exact q H1 s1
 ·have e:isW l=false:=by unfold isW;rw[c];rfl
  rw[e] at q
  exact q H1 s1
theorem agL:Df P w K mg base "has" 1 ["mask","number"] (aHW K):=by
 refine ZZ.F_has.dfs aFM (fun vs H Q E h=>?_) (fun f cdv A outer s H vs Q E hr h=>?_)
 ·obtain⟨m,n,rfl,h0,q⟩:=h
  rfl
 obtain⟨m,n,rfl,h0,q⟩:=h
 refine⟨_,(ss1 (aaF (adF oEq (eOp ah2 (eOp aj2 (v_ 0) (v_ 1)) eI) eI))),?_⟩
 refine⟨_,rfl,_,rfl,_,_,rfl,rfl,h0.2,_,_,rfl,rfl,rfl,?_⟩
 have e:decide (V.int (Builtin.bitAnd (m / 2^n.toNat) 1)=V.int 1)=tb m n.toNat:=by
  rw[←arS h0.1]
  exact decide_eq_decide.mpr int_eq
 show Q (.bl (decide (V.int (Builtin.bitAnd (m / 2^n.toNat) 1)=V.int 1))) H
 rw[e]
 exact q
theorem arG:Df P w K mg base "mask_of" 1 ["numbers"] (ap5 K):=by
 refine ZZ.F_mask_of.dfs sc_mask_of (fun vs H Q E h=>?_) (fun f cdv A outer s H vs Q E hr h=>?_)
 ·obtain⟨a,zs,rfl,hS,hz,q⟩:=h
  rfl
 obtain⟨a,zs,rfl,hS,hz,q⟩:=h
 refine⟨_,(ssC (aaI 1 eI sc_mask_of.nd)
   (ssC (afK (iL (v_ 0)) (gN 2 sc_mask_of.nd) (ss1 (aaI 1 (eOp oOr (v_ 1) (eOp afE eI (v_ 2))) sc_mask_of.nd)) PassesOwn.never)
   (ss1 (aaF (v_ 1))))),?_⟩
 refine⟨_,rfl,a,rfl,⟨_,hS⟩,abS (K:=K) (a:=a) (xs:=zs.map V.int) (fun i σ H2=>H2=H/\∃u:Option V,σ=[some (.ref a),some (.int (aa3 (zs.take i))),u]) ⟨rfl,_,rfl⟩ (fun i σ H2 _ hP=>by rw[hP.1];exact hS) ?_ ?_⟩
 ·rintro i x σ H2 hx ⟨rfl,u,rfl⟩
  rw[List.getElem?_map] at hx
  cases ez:zs[i]? with
  |none=>rw[ez] at hx;cases hx
  |some z=>
   rw[ez] at hx
   obtain rfl:V.int z=x:=Option.some.inj hx
   have h:=hz z (List.mem_of_getElem? ez)
   have et:aa3 (zs.take (i+1))=Builtin.bitOr (aa3 (zs.take i)) (1*2^z.toNat):=by
    rw[List.take_succ,ez,←ai2]
    rfl
   exact⟨_,rfl,_,rfl,_,_,rfl,rfl,⟨h.1,by omega,by decide⟩,_,_,rfl,rfl,rfl,_,by rw[et];rfl⟩
 ·rintro σ H2 ⟨rfl,u,rfl⟩
  rw[List.length_map,List.take_length]
  exact⟨_,rfl,q⟩
theorem akS:Df P w K mg base "numbers_in" 2 ["mask"] (ak1 K):=by
 refine ZZ.F_numbers_in.dfs akZ (fun vs H Q E h=>?_) (fun f cdv A outer s H vs Q E hr h=>?_)
 ·obtain⟨m,rfl,hm,q⟩:=h
  rfl
 obtain⟨m,rfl,hm,q⟩:=h
 refine⟨_,(ss1 (aaF (acO ["mask"] [0] (iR1 ZZ.z_range (aC (eBL (v_ 0)) aN)) (fun _ _ _ _ _ _=>(fs1 (tVa (eD (agL ZZ) hr (aC (v_ 1) (aC (v_ 0) aN)))))) (fun _ _ _ _ _ _=>(v_ 0))))),?_⟩
 refine⟨_,rfl,rfl,_,rfl,rfl,_,rfl,by omega,by omega,aa7 (fun i z=>z=(flt (tb m) 0 i).map V.int) (by rw[sizeLine_eq,Int.toNat_natCast];omega) asQ ?_ ?_⟩
 ·intro i z D H2 E' F' hi hR hD s2 hz hE hF
  subst hR
  refine⟨_,rfl,_,rfl,_,_,rfl,⟨hm.1,by omega⟩,_,rfl,?_⟩
  have e0:(0+(i:Int)).toNat=i:=by omega
  show if tb m (0+(i:Int)).toNat=true then _ else _
  rw[e0]
  by_cases c:tb m i=true
  ·rw[if_pos c]
   exact⟨_,rfl,hE _ _ (Same.refl _) (by rw[amX c,List.map_append];rfl)⟩
  ·rw[if_neg c]
   exact hF _ (Same.refl _) (by rw[anJ (by simpa using c)])
 ·intro D H2 z hR hD s2 hz
  subst hR
  rw[Int.toNat_natCast] at hz
  exact q D H2 s2 hz
theorem ahK:Df P w K mg base "run_mask" 2 ["first","last","stride"] (ao8 K):=by
 refine ZZ.F_run_mask.dfs aoW (fun vs H Q E h=>?_) (fun f cdv A outer s H vs Q E hr h=>?_)
 ·obtain⟨a,b,st,rfl,ha,hb,hs,q⟩:=h
  rfl
 obtain⟨a,b,st,rfl,ha,hb,hs,q⟩:=h
 refine⟨_,(ss1 (aaF (eD (arG ZZ) hr (aC (eCT cLR ZZ.z_list PyProof.Rows.boot_list (aC (eCT aBD ZZ.z_range boot_range (aC (v_ 0) (aC (eOp aaL (v_ 1) eI) (aC (v_ 2) aN)))) aN)) aN)))),?_⟩
 obtain⟨n1,n2⟩:=adA ha.1 hb.2 hs.1
 have bd:∀z∈acI a b st,0<=z/\z<=100000:=fun z hz=>by
  have:=(amC hs.1).mp hz
  omega
 refine⟨_,rfl,_,rfl,_,_,rfl,rfl,_,rfl,_,_,_,rfl,⟨hs.1,by omega⟩,fun p hp=>⟨p,a,b+1,st,(Builtin.Range.rangeSize a (b+1) st).toNat,rfl,aaA,acX ha.1 ha.2 hb.1 hb.2 hs.1 hs.2,n2,(by omega),fun l hl=>⟨l,acI a b st,rfl,SqL.of (by rw[ab4,List.map_map];exact aaA),bd,?_⟩⟩⟩
 exact q _ ((aaB hp _).trans (aaB hl _))
theorem aa4:Df P w K mg base "read_number" 3 ["text","low","high"] (aiZ K):=by
 refine ZZ.F_read_number.dfs sc_read_number (fun vs H Q E h=>?_) (fun f cdv A outer s H vs Q E hr h=>?_)
 ·obtain⟨l,lo,hi,rfl,hl,q⟩:=h
  rfl
 obtain⟨l,lo,hi,rfl,hl,q⟩:=h
 refine⟨_,(ssC (sIf (tNo (tVa (eD (ae6 ZZ) hr (aC (v_ 0) aN)))) (ss1 (aaF eN)) ssN)
   (ssC (aaI 3 (eCT aN8 ZZ.z_int PyProof.Rows.boot_int (aC (v_ 0) aN)) sc_read_number.nd)
   (ssC (sIf (tCh oLe oLe (v_ 1) (v_ 3) (v_ 2)) (ss1 (aaF (v_ 3))) ssN)
   (ss1 (aaF eN))))),?_⟩
 refine⟨_,rfl,l,rfl,(by omega),fun H1 s1=>⟨_,rfl,?_⟩⟩
 by_cases c:isW l=true
 ·rw[c]
  obtain⟨d1,d2⟩:=arE c
  refine aaU ⟨_,rfl,l,rfl,d1,d2,(by omega),?_⟩
  refine⟨_,rfl,_,rfl,_,_,rfl,rfl,_,rfl,?_⟩
  show if decide (lo<=dv l)=true then _ else _
  refine ifD (fun c1=>⟨_,rfl,_,_,rfl,rfl,_,rfl,?_⟩) (fun c1=>⟨_,rfl,?_⟩)
  ·show if decide (dv l<=hi)=true then _ else _
   refine ifD (fun c2=>?_) (fun c2=>?_)
   ·have e:aaP lo hi l=some (dv l):=by unfold aaP;rw[if_pos c,if_pos ⟨c1,c2⟩]
    rw[e] at q
    exact⟨_,rfl,q H1 s1⟩
   ·have e:aaP lo hi l=none:=by unfold aaP;rw[if_pos c,if_neg fun z=>c2 z.2]
    rw[e] at q
    exact q H1 s1
  ·have e:aaP lo hi l=none:=by unfold aaP;rw[if_pos c,if_neg fun z=>c1 z.1]
   rw[e] at q
   exact aaU (q H1 s1)
 ·have c':isW l=false:=by simpa using c
  rw[c']
  have e:aaP lo hi l=none:=by unfold aaP;rw[if_neg c]
  rw[e] at q
  exact aa8 (q H1 s1)
theorem ahV:Df P w K mg base "read_run" 4 ["text","low","high"] (aoI K):=by
 refine ZZ.F_read_run.dfs sc_read_run (fun vs H Q E h=>?_) (fun f cdv A outer s H vs Q E hr h=>?_)
 ·obtain⟨l,lo,hi,rfl,hl,q⟩:=h
  rfl
 obtain⟨l,lo,hi,rfl,hl,q⟩:=h
 refine⟨_,(ssC (sIf (tCm oEq (v_ 0) (eSx [42])) (ss1 (aaF (aa5 (aC (v_ 1) (aC (v_ 2) aN))))) ssN)
   (ssC (aNF 3 ["low","high"] [1,2] (iL (asW (v_ 0) (eSx [45]))) (fun _ _ _ _ _ _=>fsN) (fun _ _ _ _ _ _=>(eD (aa4 ZZ) hr (aC (v_ 0) (aC (v_ 1) (aC (v_ 2) aN))))) sc_read_run.nd)
   (ssC (sIf (tW (wOr (tCm oGt (eCB amJ ZZ.z_len PySem.boot_len (aC (v_ 3) aN)) eI) (wOr (tCm oIn eN (v_ 3)) (akT (tCm oGt (eIx xL (v_ 3) eI) (eIx xL (v_ 3) (eUn aq1 eI))))))) (ss1 (aaF eN)) ssN)
   (ss1 (aaF (aa5 (aC (eIx xL (v_ 3) eI) (aC (eIx xL (v_ 3) (eUn aq1 eI)) aN)))))))),?_⟩
 refine⟨_,rfl,rfl,_,rfl,?_⟩
 rw[av1 l [42]]
 by_cases c:l=[42]
 ·rw[decide_eq_true c]
  refine aa8 ⟨_,rfl,_,rfl,(by show 2<=sizeLine;decide),fun p hp=>?_⟩
  have e:aaR lo hi l=some (lo,hi):=by unfold aaR;rw[if_pos c]
  rw[e] at q
  exact q _ _ (aaB hp _) ⟨p,rfl,aaA⟩
 rw[decide_eq_false c]
 have hsl:=af6 45 l
 have eR:aaR lo hi l=ahA ((spl 45 l).map (aaP lo hi)):=by unfold aaR;rw[if_neg c]
 rw[eR] at q
 refine aaU ⟨_,rfl,rfl,l,45,rfl,rfl,(by rw[sizeLine_eq];omega),fun ps hps=>⟨ps,rfl,⟨_,SqL.of aaA⟩,acZ (xs:=(spl 45 l).map fun q=>V.str (Tx q)) (fun i z=>z=((spl 45 l).take i).map fun q=>oV (aaP lo hi q)) (by rw[List.length_map,sizeLine_eq];omega) rfl (SqL.of aaA) ?_ ?_⟩⟩
 ·intro i v z D H2 E' F' hv hR hD s2 hz hE hF
  subst hR
  rw[List.getElem?_map] at hv
  cases ew:(spl 45 l)[i]? with
  |none=>rw[ew] at hv;cases hv
  |some w0=>
   rw[ew] at hv
   obtain rfl:V.str (Tx w0)=v:=Option.some.inj hv
   have hw:=abK 45 l w0 (List.mem_of_getElem? ew)
   exact⟨_,rfl,_,rfl,_,rfl,w0,lo,hi,rfl,(by omega),fun H3 s3=>hE _ _ s3 (by rw[List.take_succ,ew,List.map_append];rfl)⟩
 intro D H2 z hR hD s2 hz
 subst hR
 rw[List.length_map,List.take_length] at hz
 have hz2:H2 D=some (.lst (((spl 45 l).map (aaP lo hi)).map oV)):=by rw[hz,List.map_map];rfl
 have hlen:((spl 45 l).map (aaP lo hi)).length<=600:=by rw[List.length_map];omega
 have hnn:(spl 45 l).map (aaP lo hi)≠[]:=fun e=>aJE 45 l (List.map_eq_nil_iff.mp e)
 generalize (spl 45 l).map (aaP lo hi)=es at hz2 q hlen hnn
 have s02:Same H H2:=(aaB hps _).trans s2
 have hfl:(es.map oV).all afD=true:=ay0 es
 refine⟨_,rfl,D,_,rfl,.inl (SqL.of hz2),_,_,rfl,rfl,_,rfl,?_⟩
 match es,hnn with
 |[],h=>exact absurd rfl h
 |[none],_=>
  refine aaU ⟨_,rfl,D,_,rfl,.inl (SqL.of hz2),rfl,hfl,_,rfl,aa8 ?_⟩
  exact q _ _ s02 rfl
 |[some a],_=>
  refine aaU ⟨_,rfl,D,_,rfl,.inl (SqL.of hz2),rfl,hfl,_,rfl,aaU ⟨_,rfl,D,_,_,_,rfl,rfl,SqL.of hz2,rfl,_,rfl,_,rfl,D,_,_,_,rfl,rfl,SqL.of hz2,rfl,_,_,rfl,rfl,_,rfl,?_⟩⟩
  rw[decide_eq_false (show ¬a<a by omega)]
  refine aaU ⟨_,rfl,D,_,_,_,rfl,rfl,SqL.of hz2,rfl,_,rfl,_,rfl,D,_,_,_,rfl,rfl,SqL.of hz2,rfl,(by show 2<=sizeLine;decide),fun p hp=>?_⟩
  exact q _ _ (s02.trans (aaB hp _)) ⟨p,rfl,aaA⟩
 |[none,y],_=>
  refine aaU ⟨_,rfl,D,_,rfl,.inl (SqL.of hz2),rfl,hfl,_,rfl,aa8 ?_⟩
  exact q _ _ s02 rfl
 |[some a,none],_=>
  refine aaU ⟨_,rfl,D,_,rfl,.inl (SqL.of hz2),rfl,hfl,_,rfl,aa8 ?_⟩
  exact q _ _ s02 rfl
 |[some a,some b],_=>
  refine aaU ⟨_,rfl,D,_,rfl,.inl (SqL.of hz2),rfl,hfl,_,rfl,aaU ⟨_,rfl,D,_,_,_,rfl,rfl,SqL.of hz2,rfl,_,rfl,_,rfl,D,_,_,_,rfl,rfl,SqL.of hz2,rfl,_,_,rfl,rfl,_,rfl,?_⟩⟩
  refine ifD (fun c2=>?_) (fun c2=>?_)
  ·have e:ahA [some a,some b]=none:=by show (if b<a then none else some (a,b))=none;rw[if_pos c2]
   rw[e] at q
   exact q _ _ s02 rfl
  ·have e:ahA [some a,some b]=some (a,b):=by show (if b<a then none else some (a,b))=some (a,b);rw[if_neg c2]
   rw[e] at q
   refine⟨_,rfl,D,_,_,_,rfl,rfl,SqL.of hz2,rfl,_,rfl,_,rfl,D,_,_,_,rfl,rfl,SqL.of hz2,rfl,(by show 2<=sizeLine;decide),fun p hp=>?_⟩
   exact q _ _ (s02.trans (aaB hp _)) ⟨p,rfl,aaA⟩
 |x::y::u::r,_=>
  have e3:decide ((2:Int)<(((x::y::u::r).map oV).length:Nat))=true:=decide_eq_true (by rw[List.length_map];show (2:Int)<((r.length+1+1+1:Nat):Int);omega)
  refine ifT e3 ?_
  have e:ahA (x::y::u::r)=none:=by cases x<;>cases y<;>rfl
  rw[e] at q
  exact q _ _ s02 rfl
theorem ah6:Df P w K mg base "read_strided" 5 ["run_text","stride_text","low","high"] (ahY K):=by
 refine ZZ.F_read_strided.dfs sc_read_strided (fun vs H Q E h=>?_) (fun f cdv A outer s H vs Q E hr h=>?_)
 ·obtain⟨r,st,lo,hi,rfl,hr1,hs1,hb,q⟩:=h
  rfl
 obtain⟨r,st,lo,hi,rfl,hr1,hs1,hb,q⟩:=h
 refine⟨_,(ssC (aaI 4 (eD (ahV ZZ) hr (aC (v_ 0) (aC (v_ 2) (aC (v_ 3) aN)))) sc_read_strided.nd)
   (ssC (aaI 5 (eD (aa4 ZZ) hr (aC (v_ 1) (aC eI (aC (eGl (v:=.int 99) ZZ.m_MOST_STRIDE ⟨_,rfl⟩) aN)))) sc_read_strided.nd)
   (ssC (sIf (tW (wOr (tCm aeA (v_ 4) eN) (akT (tCm aeA (v_ 5) eN)))) (ss1 (aaF eN)) ssN)
   (ssC (aaI 6 (eIf (tVa (eD (ae6 ZZ) hr (aC (v_ 0) aN))) (v_ 3) (eIx xT (v_ 4) eI)) sc_read_strided.nd)
   (ss1 (aaF (eD (ahK ZZ) hr (aC (eIx xT (v_ 4) eI) (aC (v_ 6) (aC (v_ 5) aN)))))))))),?_⟩
 refine⟨_,rfl,_,rfl,_,rfl,r,lo,hi,rfl,(by omega),fun rv H1 s1 hrv=>?_⟩
 refine⟨_,rfl,st,1,99,rfl,(by omega),fun H2 s2=>?_⟩
 cases er:aaR lo hi r with
 |none=>
  rw[er] at hrv
  have hrv:rv=.non:=hrv
  subst hrv
  have e:abD lo hi r st=none:=by unfold abD;rw[er]
  rw[e] at q
  exact⟨_,rfl,rfl,_,rfl,aa8 (q H2 (s1.trans s2))⟩
 |some ab=>
  obtain⟨a,b⟩:=ab
  rw[er] at hrv
  obtain⟨p,rfl,hp⟩:=hrv
  have bd:=ai9 hb.2.1 er
  refine⟨_,rfl,rfl,_,rfl,ifF rfl ⟨_,rfl,rfl,_,rfl,?_⟩⟩
  cases es:aaP 1 99 st with
  |none=>
   have e:abD lo hi r st=none:=by unfold abD;rw[er,es]
   rw[e] at q
   exact ifT rfl (q H2 (s1.trans s2))
  |some sv=>
   have bs:=apL es
   have hp2:=s2 _ _ hp
   refine ifF rfl ⟨_,rfl,r,rfl,(by omega),fun H3 s3=>⟨_,rfl,?_⟩⟩
   have hp3:=s3 _ _ hp2
   refine if2 (fun c=>?_) (fun c=>?_)
   ·have e:abD lo hi r st=some (aiB a hi sv):=by unfold abD;rw[er,es];show some (aiB a (if isW r=true then hi else b) sv)=_;rw[if_pos c]
    rw[e] at q
    refine⟨_,rfl,_,rfl,p,_,_,_,rfl,rfl,SqT.of hp3,rfl,_,rfl,_,rfl,a,hi,sv,rfl,⟨by omega,by omega⟩,⟨by omega,by omega⟩,⟨by omega,by omega⟩,fun H4 s4=>?_⟩
    exact q H4 (s1.trans (s2.trans (s3.trans s4)))
   ·have e:abD lo hi r st=some (aiB a b sv):=by unfold abD;rw[er,es];show some (aiB a (if isW r=true then hi else b) sv)=_;rw[if_neg (by rw[c];exact Bool.false_ne_true)]
    rw[e] at q
    refine⟨_,rfl,p,_,_,_,rfl,rfl,SqT.of hp3,rfl,_,rfl,p,_,_,_,rfl,rfl,SqT.of hp3,rfl,_,rfl,_,rfl,a,b,sv,rfl,⟨by omega,by omega⟩,⟨by omega,by omega⟩,⟨by omega,by omega⟩,fun H4 s4=>?_⟩
    exact q H4 (s1.trans (s2.trans (s3.trans s4)))
theorem afZ:Df P w K mg base "read_item" 6 ["item","low","high"] (al5 K):=by
 refine ZZ.F_read_item.dfs sc_read_item (fun vs H Q E h=>?_) (fun f cdv A outer s H vs Q E hr h=>?_)
 ·obtain⟨l,lo,hi,rfl,hl,hb,q⟩:=h
  rfl
 obtain⟨l,lo,hi,rfl,hl,hb,q⟩:=h
 refine⟨_,(ssC (aaI 3 (asW (v_ 0) (eSx [47])) sc_read_item.nd)
   (ssC (sIf (tCm oEq (eCB amJ ZZ.z_len PySem.boot_len (aC (v_ 3) aN)) eI) (ss1 (aaF (eD (ah6 ZZ) hr (aC (eIx xL (v_ 3) eI) (aC (eIx xL (v_ 3) eI) (aC (v_ 1) (aC (v_ 2) aN))))))) ssN)
   (ssC (aaI 4 (eD (ahV ZZ) hr (aC (v_ 0) (aC (v_ 1) (aC (v_ 2) aN)))) sc_read_item.nd)
   (ssC (sIf (tCm aeA (v_ 4) eN) (ss1 (aaF eN)) ssN)
   (ss1 (aaF (eD (ahK ZZ) hr (aC (eIx xT (v_ 4) eI) (aC (eIx xT (v_ 4) eI) (aC eI aN)))))))))),?_⟩
 have hsl:=af6 47 l
 have hml:=abK 47 l
 refine⟨_,rfl,rfl,l,47,rfl,rfl,(by rw[sizeLine_eq];omega),fun ps hps=>?_⟩
 have s0:=aaB hps (.lst ((spl 47 l).map fun q=>V.str (Tx q)))
 refine⟨_,rfl,ps,_,rfl,.inl (SqL.of aaA),rfl,_,rfl,?_⟩
 have two:(∃r s,spl 47 l=[r,s])∨(∀r s,spl 47 l≠[r,s]):=by
  by_cases z:∃r s,spl 47 l=[r,s]
  ·exact .inl z
  ·exact .inr fun r s e=>z ⟨r,s,e⟩
 rcases two with ⟨r,s,e2⟩ | hno
 ·have e:aaH lo hi l=abD lo hi r s:=by unfold aaH;rw[e2]
  rw[e] at q
  have h1:=hml r (by rw[e2];simp)
  have h2:=hml s (by rw[e2];simp)
  rw[e2]
  refine ifT rfl ⟨_,rfl,ps,_,_,_,rfl,rfl,SqL.of aaA,rfl,_,rfl,ps,_,_,_,rfl,rfl,SqL.of aaA,rfl,_,rfl,_,rfl,r,s,lo,hi,rfl,(by omega),(by omega),hb,fun H1 s1=>?_⟩
  exact q H1 ((aaB hps _).trans s1)
 ·have hlen:¬(spl 47 l).length=2:=fun e=>by
   match h:spl 47 l,e with
   |[r,s],_=>exact hno r s h
  have e:aaH lo hi l=match aaR lo hi l with | some (a,b)=>some (aiB a b 1) | none=>none:=by
   unfold aaH
   split
   ·rename_i r s h
    exact absurd h (hno r s)
   ·rfl
  refine ifF (decide_eq_false fun z=>hlen (by have z:=V.int.inj z;rw[List.length_map] at z;omega)) ?_
  refine⟨_,rfl,_,rfl,_,rfl,l,lo,hi,rfl,(by omega),fun rv H1 s1 hrv=>?_⟩
  cases er:aaR lo hi l with
  |none=>
   rw[er] at hrv e
   have hrv:rv=.non:=hrv
   subst hrv
   rw[e] at q
   exact⟨_,rfl,rfl,_,rfl,aa8 (q H1 (s0.trans s1))⟩
  |some ab=>
   obtain⟨a,b⟩:=ab
   rw[er] at hrv e
   obtain⟨p,rfl,hp⟩:=hrv
   have bd:=ai9 hb.2.1 er
   have e:aaH lo hi l=some (aiB a b 1):=e
   rw[e] at q
   refine⟨_,rfl,rfl,_,rfl,ifF rfl ⟨_,rfl,p,_,_,_,rfl,rfl,SqT.of hp,rfl,_,rfl,p,_,_,_,rfl,rfl,SqT.of hp,rfl,a,b,1,rfl,⟨by omega,by omega⟩,⟨by omega,by omega⟩,⟨by decide,by decide⟩,fun H4 s4=>?_⟩⟩
   exact q H4 (s0.trans (s1.trans s4))
theorem akN:Df P w K mg base "read_field" 7 ["text","low","high"] (akO K):=by
 refine ZZ.F_read_field.dfs sc_read_field (fun vs H Q E h=>?_) (fun f cdv A outer s H vs Q E hr h=>?_)
 ·obtain⟨l,lo,hi,rfl,hl,hb,⟨hk,hok⟩,q⟩:=h
  rfl
 obtain⟨l,lo,hi,rfl,hl,hb,⟨hk,hok⟩,q⟩:=h
 refine⟨_,(ssC (sIf (tW (wOr (tNo (tVa (eCB cIs ZZ.z_isinstance PyProof.Rows.boot_isinstance (aC (v_ 0) (aC (eTy ZZ.z_str PyProof.Rows.boot_str) aN))))) (akT (tCm oGt (eCB at5 ZZ.z_len PySem.boot_len (aC (v_ 0) aN)) (eGl (v:=.int 300) ZZ.m_MOST_SIGNS ⟨_,rfl⟩))))) (ss1 amD) ssN)
   (ssC (aaI 3 (asW (v_ 0) (eSx [44])) sc_read_field.nd)
   (ssC (aaI 4 eI sc_read_field.nd)
   (ssC (afK (iE ZZ.z_enumerate (eSl slL (v_ 3) poN (poS (eGl (v:=.int 40) ZZ.m_MOST_ITEMS ⟨_,rfl⟩)))) (gTu (gsC (gN 5 sc_read_field.nd) (gsC (gN 6 sc_read_field.nd) gsN))) (ssC (aaI 7 (eD (afZ ZZ) hr (aC (v_ 6) (aC (v_ 1) (aC (v_ 2) aN)))) sc_read_field.nd)
   (ssC (sIf (tCm aeA (v_ 7) eN) (ss1 amD) ssN)
   (ss1 (aaI 4 (eOp oOr (v_ 4) (v_ 7)) sc_read_field.nd)))) PassesOwn.never)
   (ssC (sIf (tCm oGt (eCB amJ ZZ.z_len PySem.boot_len (aC (v_ 3) aN)) (eGl (v:=.int 40) ZZ.m_MOST_ITEMS ⟨_,rfl⟩)) (ss1 amD) ssN)
   (ss1 (aaF (v_ 4)))))))),?_⟩
 have hml:=abK 44 l
 refine⟨_,rfl,_,.str,.str,rfl,(by decide),rfl,_,rfl,ifF rfl ⟨_,rfl,l,rfl,(by rw[sizeLine_eq];omega),_,_,rfl,rfl,_,rfl,?_⟩⟩
 rw[decide_eq_false (show ¬(300:Int)<((l.length:Nat):Int) by omega)]
 refine aaU ⟨_,rfl,rfl,l,44,rfl,rfl,(by rw[sizeLine_eq];omega),fun ps hps=>?_⟩
 have s0:=aaB hps (.lst ((spl 44 l).map fun q=>V.str (Tx q)))
 refine⟨_,rfl,_,rfl,ps,_,rfl,SqL.of aaA,fun pc hpc=>?_⟩
 have ecut:ahZ ((spl 44 l).map fun q=>V.str (Tx q)) none (some 40)=(spl 44 l).map fun q=>V.str (Tx q):=aEC (by rw[List.length_map];exact hk)
 rw[ecut]
 have s1:=aaB hpc (.lst ((spl 44 l).map fun q=>V.str (Tx q)))
 refine⟨pc,rfl,⟨_,SqL.of aaA⟩,apP (K:=K) (a:=pc) (xs:=(spl 44 l).map fun q=>V.str (Tx q)) (fun i σ H2=>∃(u1 u2 u3:Option V),σ=[some (.str (Tx l)),some (.int lo),some (.int hi),some (.ref ps),some (.int (orM ((adD lo hi l).take i))),u1,u2,u3]/\Same (upd (upd H ps (.lst ((spl 44 l).map fun q=>V.str (Tx q)))) pc (.lst ((spl 44 l).map fun q=>V.str (Tx q)))) H2) ⟨_,_,_,rfl,Same.refl _⟩ (fun i σ H2 _ ⟨_,_,_,_,s2⟩=>SqL.of (s2 _ _ aaA)) ?_ ?_⟩
 ·rintro i x σ H2 T hx ⟨u1,u2,u3,rfl,s2⟩ hT
  rw[List.getElem?_map] at hx
  cases ew:(spl 44 l)[i]? with
  |none=>rw[ew] at hx;cases hx
  |some w0=>
   rw[ew] at hx
   obtain rfl:V.str (Tx w0)=x:=Option.some.inj hx
   have hw:=hml w0 (List.mem_of_getElem? ew)
   obtain⟨m,em⟩:=Option.isSome_iff_exists.mp (hok w0 (List.mem_of_getElem? ew))
   refine⟨T,_,rfl,SqT.of aaA,rfl,_,_,rfl,_,_,rfl,rfl,?_⟩
   refine⟨_,rfl,_,rfl,_,rfl,w0,lo,hi,rfl,(by omega),hb,fun H3 s3=>?_⟩
   rw[em]
   refine⟨_,rfl,rfl,_,rfl,ifF rfl ⟨_,rfl,_,rfl,_,_,rfl,rfl,?_⟩⟩
   have et:orM ((adD lo hi l).take (i+1))=Builtin.bitOr (orM ((adD lo hi l).take i)) m:=by
    rw[←afS,List.take_succ]
    unfold adD
    rw[List.getElem?_map,ew]
    show orM (_++[(aaH lo hi w0).getD 0])=_
    rw[em]
    rfl
   exact⟨_,_,_,by rw[et];rfl,s2.trans ((aaB hT _).trans s3)⟩
 ·rintro σ H2 ⟨u1,u2,u3,rfl,s2⟩
  refine⟨_,rfl,ps,_,rfl,.inl (SqL.of (s2 _ _ (s1 _ _ aaA))),_,_,rfl,rfl,_,rfl,?_⟩
  rw[decide_eq_false (show ¬(40:Int)<((((spl 44 l).map fun q=>V.str (Tx q)).length:Nat):Int) by rw[List.length_map];omega)]
  refine aaU ⟨_,rfl,?_⟩
  rw[List.length_map,show (spl 44 l).length=(adD lo hi l).length by unfold adD;rw[List.length_map],List.take_length]
  exact q H2 (s0.trans (s1.trans s2))
theorem aeZ:Df P w K mg base "weekday_at" 1 ["day","first"] (akK K):=by
 refine ZZ.F_weekday_at.dfs akV (fun vs H Q E h=>?_) (fun f cdv A outer s H vs Q E hr h=>?_)
 ·obtain⟨d,f,rfl,q⟩:=h
  rfl
 obtain⟨d,f,rfl,q⟩:=h
 refine⟨_,(ss1 (aaF (eOp aaW (eOp aa9 (eOp aaL (v_ 1) (v_ 0)) eI) eI))),?_⟩
 exact⟨_,rfl,_,rfl,_,_,rfl,rfl,_,_,rfl,rfl,_,_,rfl,rfl,(by show (0:Int)<7;decide),q⟩
theorem ad6:Df P w K mg base "all_days" 1 ["last"] (apA K):=by
 refine ZZ.F_all_days.dfs aoB (fun vs H Q E h=>?_) (fun f cdv A outer s H vs Q E hr h=>?_)
 ·obtain⟨l,rfl,hl,q⟩:=h
  rfl
 obtain⟨l,rfl,hl,q⟩:=h
 refine⟨_,(ss1 (aaF (eOp aa9 (eOp afE eI (v_ 0)) eI))),?_⟩
 exact⟨_,rfl,_,_,rfl,rfl,⟨by omega,by omega,by decide⟩,_,_,rfl,rfl,q⟩
theorem adJ:Df P w K mg base "nearest_work" 2 ["day","last","first"] (aiE K):=by
 refine ZZ.F_nearest_work.dfs sc_nearest_work (fun vs H Q E h=>?_) (fun f cdv A outer s H vs Q E hr h=>?_)
 ·obtain⟨d,l,fi,rfl,q⟩:=h
  rfl
 obtain⟨d,l,fi,rfl,q⟩:=h
 refine⟨_,(ssC (aaI 3 (eD (aeZ ZZ) hr (aC (v_ 0) (aC (v_ 2) aN))) sc_nearest_work.nd)
   (ssC (sIf (tCm oEq (v_ 3) (eGl (v:=.int 6) ZZ.m_SATURDAY ⟨_,rfl⟩)) (ss1 (aaF (eIf (tCm oGt (v_ 0) eI) (eOp aa9 (v_ 0) eI) eI))) ssN)
   (ssC (sIf (tCm oEq (v_ 3) (eGl (v:=.int 0) ZZ.m_SUNDAY ⟨_,rfl⟩)) (ss1 (aaF (eIf (tCm oLt (v_ 0) (v_ 1)) (eOp aaL (v_ 0) eI) (eOp aa9 (v_ 1) eI)))) ssN)
   (ss1 (aaF (v_ 0)))))),?_⟩
 refine⟨_,rfl,_,rfl,_,_,rfl,?_⟩
 refine⟨_,rfl,rfl,_,rfl,ifI (fun c=>?_) (fun c=>?_)⟩
 ·refine⟨_,rfl,_,_,rfl,rfl,_,rfl,ifD (fun c2=>⟨_,rfl,_,_,rfl,rfl,?_⟩) (fun c2=>?_)⟩
  ·have e:nw d l fi=d-1:=by unfold nw;rw[if_pos c,if_pos c2]
   rw[e] at q
   exact q
  ·have e:nw d l fi=3:=by unfold nw;rw[if_pos c,if_neg c2]
   rw[e] at q
   exact q
 ·refine⟨_,rfl,rfl,_,rfl,ifI (fun c1=>?_) (fun c1=>?_)⟩
  ·refine⟨_,rfl,_,rfl,_,_,rfl,rfl,_,rfl,ifD (fun c2=>⟨_,rfl,_,_,rfl,rfl,?_⟩) (fun c2=>⟨_,rfl,_,_,rfl,rfl,?_⟩)⟩
   ·have e:nw d l fi=d+1:=by unfold nw;rw[if_neg c,if_pos c1,if_pos c2]
    rw[e] at q
    exact q
   ·have e:nw d l fi=l-2:=by unfold nw;rw[if_neg c,if_pos c1,if_neg c2]
    rw[e] at q
    exact q
  ·have e:nw d l fi=d:=by unfold nw;rw[if_neg c,if_neg c1]
   rw[e] at q
   exact⟨_,rfl,q⟩
theorem amA:Df P w K mg base "first_one" 1 ["weekday","first"] (amV K):=by
 refine ZZ.F_first_one.dfs al6 (fun vs H Q E h=>?_) (fun f cdv A outer s H vs Q E hr h=>?_)
 ·obtain⟨wd,fi,rfl,q⟩:=h
  rfl
 obtain⟨wd,fi,rfl,q⟩:=h
 refine⟨_,(ss1 (aaF (eOp aaL eI (eOp aaW (eOp aa9 (v_ 0) (v_ 1)) eI)))),?_⟩
 exact⟨_,rfl,_,rfl,_,_,rfl,rfl,_,_,rfl,rfl,(by show (0:Int)<7;decide),_,_,rfl,rfl,q⟩
theorem anX:DfM P w K mg base C_Mark "days" 1 ["self","last","first"] (amE K C_Mark):=by
 refine ZZ.F_Mark_days.dfs anS (fun vs H Q E h=>?_) (fun f cdv A outer s H vs Q E hr h=>?_)
 ·obtain⟨p,l,fi,rfl,q⟩:=h
  rfl
 obtain⟨p,l,fi,rfl,q⟩:=h
 refine⟨_,(ss1 (aaF eI)),?_⟩
 exact q
theorem aeP:DfM P w K mg base C_Numbers "__init__" 1 ["self","mask"] (aeW K C_Numbers):=by
 refine ZZ.F_Numbers___init__.dfs aeO (fun vs H Q E h=>?_) (fun f cdv A outer s H vs Q E hr h=>?_)
 ·obtain⟨p,dx,m,rfl,hp,q⟩:=h
  rfl
 obtain⟨p,dx,m,rfl,hp,q⟩:=h
 refine⟨_,(ss1 (sFl (v_ 0) (v_ 1))),?_⟩
 exact⟨_,rfl,_,rfl,p,C_Numbers,dx,[],rfl,hp,ZZ.c_Numbers.cl,ZZ.n_Numbers_mask,(by show 0<1000;decide),q⟩
theorem ah7:DfM P w K mg base C_Numbers "days" 2 ["self","last","first"] (aiM K C_Numbers):=by
 refine ZZ.F_Numbers_days.dfs aiD (fun vs H Q E h=>?_) (fun f cdv A outer s H vs Q E hr h=>?_)
 ·obtain⟨p,dx,m,l,fi,rfl,hp,hl,q⟩:=h
  rfl
 obtain⟨p,dx,m,l,fi,rfl,hp,hl,q⟩:=h
 refine⟨_,(ss1 (aaF (eOp ah2 (eFl (v_ 0)) (eD (ad6 ZZ) hr (aC (v_ 1) aN))))),?_⟩
 exact⟨_,rfl,p,C_Numbers,dx,_,_,rfl,hp,ZZ.c_Numbers.cl,ZZ.n_Numbers_mask,rfl,_,rfl,_,rfl,hl.1,_,_,rfl,rfl,q⟩
theorem acU:DfMD P w K mg base C_Last "__init__" 1 ["self","back"] (agS K C_Last) [.int 0]:=by
 refine ZZ.F_Last___init__.dfs agT (fun vs H Q E h=>?_) (fun f cdv A outer s H vs Q E hr h=>?_)
 ·obtain⟨p,dx,m,rfl,hp,q⟩:=h
  rfl
 obtain⟨p,dx,m,rfl,hp,q⟩:=h
 refine⟨_,(ss1 (sFl (v_ 0) (v_ 1))),?_⟩
 exact⟨_,rfl,_,rfl,p,C_Last,dx,[],rfl,hp,ZZ.c_Last.cl,ZZ.n_Last_back,(by show 0<1000;decide),q⟩
theorem am1:DfM P w K mg base C_Last "days" 1 ["self","last","first"] (am5 K C_Last):=by
 refine ZZ.F_Last_days.dfs al3 (fun vs H Q E h=>?_) (fun f cdv A outer s H vs Q E hr h=>?_)
 ·obtain⟨p,dx,b,l,fi,rfl,hp,hb,hl,q⟩:=h
  rfl
 obtain⟨p,dx,b,l,fi,rfl,hp,hb,hl,q⟩:=h
 refine⟨_,(ssC (sIf (tCm oGe (eFl (v_ 0)) (v_ 1)) (ss1 (aaF eI)) ssN)
   (ss1 (aaF (eOp afE eI (eOp aa9 (v_ 1) (eFl (v_ 0))))))),?_⟩
 refine⟨_,rfl,p,C_Last,dx,_,_,rfl,hp,ZZ.c_Last.cl,ZZ.n_Last_back,rfl,_,rfl,_,_,rfl,rfl,_,rfl,ifD (fun c=>?_) (fun c=>?_)⟩
 ·have e:ak4 b l=0:=by unfold ak4;rw[if_pos c]
  rw[e] at q
  exact q
 ·have e:ak4 b l=1*2^(l-b).toNat:=by unfold ak4;rw[if_neg c]
  rw[e] at q
  have:=hl.1.2
  exact⟨_,rfl,_,rfl,p,C_Last,dx,_,_,rfl,hp,ZZ.c_Last.cl,ZZ.n_Last_back,rfl,_,_,rfl,rfl,_,_,rfl,rfl,⟨by omega,by omega,by decide⟩,q⟩
theorem agI:DfM P w K mg base C_Near "__init__" 1 ["self","day"] (agJ K C_Near):=by
 refine ZZ.F_Near___init__.dfs agR (fun vs H Q E h=>?_) (fun f cdv A outer s H vs Q E hr h=>?_)
 ·obtain⟨p,dx,m,rfl,hp,q⟩:=h
  rfl
 obtain⟨p,dx,m,rfl,hp,q⟩:=h
 refine⟨_,(ss1 (sFl (v_ 0) (v_ 1))),?_⟩
 exact⟨_,rfl,_,rfl,p,C_Near,dx,[],rfl,hp,ZZ.c_Near.cl,ZZ.n_Near_day,(by show 0<1000;decide),q⟩
theorem amL:DfM P w K mg base C_Near "days" 3 ["self","last","first"] (amZ K C_Near):=by
 refine ZZ.F_Near_days.dfs anW (fun vs H Q E h=>?_) (fun f cdv A outer s H vs Q E hr h=>?_)
 ·obtain⟨p,dx,d,l,fi,rfl,hp,ok,q⟩:=h
  rfl
 obtain⟨p,dx,d,l,fi,rfl,hp,ok,q⟩:=h
 refine⟨_,(ssC (sIf (tCm oGt (eFl (v_ 0)) (v_ 1)) (ss1 (aaF eI)) ssN)
   (ss1 (aaF (eOp afE eI (eD (adJ ZZ) hr (aC (eFl (v_ 0)) (aC (v_ 1) (aC (v_ 2) aN)))))))),?_⟩
 refine⟨_,rfl,p,C_Near,dx,_,_,rfl,hp,ZZ.c_Near.cl,ZZ.n_Near_day,rfl,_,rfl,_,_,rfl,rfl,_,rfl,ifD (fun c=>?_) (fun c=>?_)⟩
 ·have e:agU d l fi=0:=by unfold agU;rw[if_pos c]
  rw[e] at q
  exact q
 ·have e:agU d l fi=1*2^(nw d l fi).toNat:=by unfold agU;rw[if_neg c]
  rw[e] at q
  have hn:=aiU ok (by omega)
  exact⟨_,rfl,p,C_Near,dx,_,_,rfl,hp,ZZ.c_Near.cl,ZZ.n_Near_day,rfl,_,rfl,_,rfl,_,_,_,rfl,_,_,rfl,rfl,⟨by omega,by omega,by decide⟩,q⟩
theorem ag1:DfM P w K mg base C_LastWork "days" 3 ["self","last","first"] (agN K C_LastWork):=by
 refine ZZ.F_LastWork_days.dfs agP (fun vs H Q E h=>?_) (fun f cdv A outer s H vs Q E hr h=>?_)
 ·obtain⟨p,dx,l,fi,rfl,hp,ok,q⟩:=h
  rfl
 obtain⟨p,dx,l,fi,rfl,hp,ok,q⟩:=h
 refine⟨_,(ss1 (aaF (eOp afE eI (eD (adJ ZZ) hr (aC (v_ 1) (aC (v_ 1) (aC (v_ 2) aN))))))),?_⟩
 have hn:=aiU ok (Int.le_refl _)
 exact⟨_,rfl,_,rfl,_,rfl,_,_,_,rfl,_,_,rfl,rfl,⟨by omega,by omega,by decide⟩,q⟩
theorem ad1:DfM P w K mg base C_Weekdays "__init__" 1 ["self","mask"] (adT K C_Weekdays):=by
 refine ZZ.F_Weekdays___init__.dfs aeE (fun vs H Q E h=>?_) (fun f cdv A outer s H vs Q E hr h=>?_)
 ·obtain⟨p,dx,m,rfl,hp,q⟩:=h
  rfl
 obtain⟨p,dx,m,rfl,hp,q⟩:=h
 refine⟨_,(ss1 (sFl (v_ 0) (v_ 1))),?_⟩
 exact⟨_,rfl,_,rfl,p,C_Weekdays,dx,[],rfl,hp,ZZ.c_Weekdays.cl,ZZ.n_Weekdays_mask,(by show 0<1000;decide),q⟩
theorem ag0:DfM P w K mg base C_Weekdays "days" 2 ["self","last","first"] (agM K C_Weekdays):=by
 refine ZZ.F_Weekdays_days.dfs sc_Weekdays_days (fun vs H Q E h=>?_) (fun f cdv A outer s H vs Q E hr h=>?_)
 ·obtain⟨p,dx,m,l,fi,rfl,hp,hm,⟨hl,hf⟩,q⟩:=h
  rfl
 obtain⟨p,dx,m,l,fi,rfl,hp,hm,⟨hl,hf⟩,q⟩:=h
 refine⟨_,(ssC (aaI 3 eI sc_Weekdays_days.nd)
   (ssC (afK (iR1 ZZ.z_range (aC eI aN)) (gN 4 sc_Weekdays_days.nd) (ss1 (aaI 3 (eOp oOr (v_ 3) (eOp afE (eFl (v_ 0)) (eOp acS eI (v_ 4)))) sc_Weekdays_days.nd)) PassesOwn.never)
   (ss1 (aaF (eOp ah2 (eOp afE (eOp aj2 (v_ 3) (v_ 2)) eI) (eD (ad6 ZZ) hr (aC (v_ 1) aN))))))),?_⟩
 have hb:=aDB m (awH hm.1 hm.2)
 refine⟨_,rfl,by decide,by decide,aeI (fun i σ H2=>H2=H/\∃u:Option V,σ=[some (.ref p),some (.int l),some (.int fi),some (.int (wks m i)),u]) ⟨rfl,_,rfl⟩ ?_ ?_⟩
 ·rintro i σ H2 hi ⟨rfl,u,rfl⟩
  have hi':i<6:=hi
  exact⟨_,rfl,_,rfl,p,C_Weekdays,dx,_,_,rfl,hp,ZZ.c_Weekdays.cl,ZZ.n_Weekdays_mask,rfl,_,rfl,_,_,rfl,rfl,.inl ⟨by decide,by decide⟩,_,_,rfl,rfl,⟨by omega,by omega,(by show m.natAbs<2^64;omega)⟩,_,_,rfl,rfl,rfl,_,rfl⟩
 ·rintro σ H2 ⟨rfl,u,rfl⟩
  exact⟨_,rfl,_,rfl,_,_,rfl,rfl,hf.1,_,_,rfl,rfl,⟨by decide,by decide,hb.2 fi (ajP hf.1 hf.2)⟩,_,rfl,_,rfl,hl,_,_,rfl,rfl,q⟩
theorem aiG:DfM P w K mg base C_Nth "__init__" 1 ["self","weekday","many"] (ah5 K C_Nth):=by
 refine ZZ.F_Nth___init__.dfs ah3 (fun vs H Q E h=>?_) (fun f cdv A outer s H vs Q E hr h=>?_)
 ·obtain⟨p,dx,wd,m,rfl,hp,q⟩:=h
  rfl
 obtain⟨p,dx,wd,m,rfl,hp,q⟩:=h
 refine⟨_,(ssC (sFl (v_ 0) (v_ 1))
   (ss1 (sFl (v_ 0) (v_ 2)))),?_⟩
 exact⟨_,rfl,_,rfl,p,C_Nth,dx,[],rfl,hp,ZZ.c_Nth.cl,ZZ.n_Nth_weekday,(by show 0<1000;decide),_,rfl,_,rfl,p,C_Nth,dx,_,rfl,aaA,ZZ.c_Nth.cl,ZZ.n_Nth_many,(by show 1<1000;decide),q⟩
theorem an7:DfM P w K mg base C_Nth "days" 2 ["self","last","first"] (apQ K C_Nth):=by
 refine ZZ.F_Nth_days.dfs sc_Nth_days (fun vs H Q E h=>?_) (fun f cdv A outer s H vs Q E hr h=>?_)
 ·obtain⟨p,dx,wd,m,l,fi,rfl,hp,hw,hm,⟨hl,hf⟩,q⟩:=h
  rfl
 obtain⟨p,dx,wd,m,l,fi,rfl,hp,hw,hm,⟨hl,hf⟩,q⟩:=h
 refine⟨_,(ssC (aaI 3 (eOp aaL (eD (amA ZZ) hr (aC (eFl (v_ 0)) (aC (v_ 2) aN))) (eOp acS eI (eOp aa9 (eFl (v_ 0)) eI))) sc_Nth_days.nd)
   (ssC (sIf (tCm oGt (v_ 3) (v_ 1)) (ss1 (aaF eI)) ssN)
   (ss1 (aaF (eOp afE eI (v_ 3)))))),?_⟩
 have hn:=arP l (at0 hl.1 hl.2) fi (ajP hf.1 hf.2) wd (ajP hw.1 hw.2) m (aNG hm.1 hm.2)
 refine⟨_,rfl,p,C_Nth,dx,_,_,rfl,hp,ZZ.c_Nth.cl,ZZ.n_Nth_weekday,aIN _ _,_,rfl,_,_,rfl,_,rfl,p,C_Nth,dx,_,_,rfl,hp,ZZ.c_Nth.cl,ZZ.n_Nth_many,aE5 _ _,_,_,rfl,rfl,_,_,rfl,rfl,.inl ⟨by decide,by decide⟩,_,_,rfl,rfl,?_⟩
 refine⟨_,rfl,_,rfl,_,_,rfl,rfl,_,rfl,ifD (fun c=>?_) (fun c=>?_)⟩
 ·have e:amB wd m l fi=0:=by unfold amB;rw[if_pos (show l<afI wd m fi from c)]
  rw[e] at q
  exact q
 ·have e:amB wd m l fi=1*2^(afI wd m fi).toNat:=by unfold amB;rw[if_neg (show ¬l<afI wd m fi from c)]
  rw[e] at q
  exact⟨_,rfl,_,_,rfl,rfl,⟨hn.2.2.1,Int.le_trans hn.2.2.2 (by decide),by decide⟩,q⟩
theorem aeQ:DfM P w K mg base C_LastOne "__init__" 1 ["self","weekday"] (aeV K C_LastOne):=by
 refine ZZ.F_LastOne___init__.dfs aeU (fun vs H Q E h=>?_) (fun f cdv A outer s H vs Q E hr h=>?_)
 ·obtain⟨p,dx,m,rfl,hp,q⟩:=h
  rfl
 obtain⟨p,dx,m,rfl,hp,q⟩:=h
 refine⟨_,(ss1 (sFl (v_ 0) (v_ 1))),?_⟩
 exact⟨_,rfl,_,rfl,p,C_LastOne,dx,[],rfl,hp,ZZ.c_LastOne.cl,ZZ.n_LastOne_weekday,(by show 0<1000;decide),q⟩
theorem ah4:DfM P w K mg base C_LastOne "days" 2 ["self","last","first"] (aiL K C_LastOne):=by
 refine ZZ.F_LastOne_days.dfs ah8 (fun vs H Q E h=>?_) (fun f cdv A outer s H vs Q E hr h=>?_)
 ·obtain⟨p,dx,wd,l,fi,rfl,hp,hw,⟨hl,hf⟩,q⟩:=h
  rfl
 obtain⟨p,dx,wd,l,fi,rfl,hp,hw,⟨hl,hf⟩,q⟩:=h
 refine⟨_,(ss1 (aaF (eOp afE eI (eOp aa9 (v_ 1) (eOp aaW (eOp aa9 (eD (aeZ ZZ) hr (aC (v_ 1) (aC (v_ 2) aN))) (eFl (v_ 0))) eI))))),?_⟩
 have hn:=arK l (at0 hl.1 hl.2) fi (ajP hf.1 hf.2) wd (ajP hw.1 hw.2)
 exact⟨_,rfl,_,rfl,_,rfl,_,_,rfl,_,rfl,p,C_LastOne,dx,_,_,rfl,hp,ZZ.c_LastOne.cl,ZZ.n_LastOne_weekday,rfl,_,_,rfl,rfl,_,_,rfl,rfl,(by show (0:Int)<7;decide),_,_,rfl,rfl,_,_,rfl,rfl,⟨hn.2.1,Int.le_trans hn.2.2 (by decide),by decide⟩,q⟩
theorem aoE:Df P w K mg base "any_days" 4 ["marks","last","first"] (ao7 K C_Numbers C_Last C_Near C_LastWork C_Weekdays C_Nth C_LastOne C_Mark):=by
 refine ZZ.F_any_days.dfs sc_any_days (fun vs H Q E h=>?_) (fun f cdv A outer s H vs Q E hr h=>?_)
 ·obtain⟨b,ps,ks,l,fi,rfl,hB,fM,oM,hlf,q⟩:=h
  rfl
 obtain⟨b,ps,ks,l,fi,rfl,hB,fM,oM,hlf,q⟩:=h
 refine⟨_,(ssC (aaI 3 eI sc_any_days.nd)
   (ssC (afK (iL (v_ 0)) (gN 4 sc_any_days.nd) (ss1 (aaI 3 (eOp oOr (v_ 3) (aoD (eMe ZZ.c_Numbers.cl (ah7 ZZ) hr (v_ 4) (aC (v_ 1) (aC (v_ 2) aN))) (aoD (eMe ZZ.c_Last.cl (am1 ZZ) hr (v_ 4) (aC (v_ 1) (aC (v_ 2) aN))) (aoD (eMe ZZ.c_Near.cl (amL ZZ) hr (v_ 4) (aC (v_ 1) (aC (v_ 2) aN))) (aoD (eMe ZZ.c_LastWork.cl (ag1 ZZ) hr (v_ 4) (aC (v_ 1) (aC (v_ 2) aN))) (aoD (eMe ZZ.c_Weekdays.cl (ag0 ZZ) hr (v_ 4) (aC (v_ 1) (aC (v_ 2) aN))) (aoD (eMe ZZ.c_Nth.cl (an7 ZZ) hr (v_ 4) (aC (v_ 1) (aC (v_ 2) aN))) (aoD (eMe ZZ.c_LastOne.cl (ah4 ZZ) hr (v_ 4) (aC (v_ 1) (aC (v_ 2) aN))) (eMe ZZ.c_Mark.cl (anX ZZ) hr (v_ 4) (aC (v_ 1) (aC (v_ 2) aN))))))))))) sc_any_days.nd)) PassesOwn.never)
   (ss1 (aaF (v_ 3))))),?_⟩
 refine⟨_,rfl,b,rfl,⟨_,hB⟩,abS (K:=K) (a:=b) (xs:=ps.map V.ref) (fun i σ H2=>H2=H/\∃u4:Option V,σ=[some (.ref b),some (.int l),some (.int fi),some (.int (orK (ks.take i) l fi)),u4]) ⟨rfl,_,rfl⟩ (fun i σ H2 _ hP=>by rw[hP.1];exact hB) ?turn ?done⟩
 case done=>
  rintro σ H2 ⟨rfl,u4,rfl⟩
  have el:(ps.map V.ref).length=ks.length:=by rw[List.length_map];exact Paired.length fM
  rw[el,List.take_length]
  exact⟨_,rfl,q⟩
 case turn=>
  rintro i x σ H2 hx ⟨rfl,u4,rfl⟩
  rw[List.getElem?_map] at hx
  cases ez:ps[i]? with
  |none=>rw[ez] at hx;cases hx
  |some p=>
   rw[ez] at hx
   obtain rfl:V.ref p=x:=Option.some.inj hx
   obtain⟨k,ek,hk⟩:=Ft.get fM ez
   have hok:=oM k (List.mem_of_getElem? ek)
   have et:orK (ks.take (i+1)) l fi=Builtin.bitOr (orK (ks.take i) l fi) (k.due l fi):=by
    rw[List.take_succ,ek]
    exact an9 _ _ _ _
   rw[et]
   cases k with
   |num m=>
    obtain⟨dx,hp⟩:=hk
    exact⟨_,rfl,(.inl ⟨_,rfl,p,dx,_,rfl,hp,rfl,_,rfl,_,rfl,p,dx,m,l,fi,rfl,hp,hlf,_,_,rfl,rfl,rfl,_,rfl⟩)⟩
   |lst b=>
    obtain⟨dx,hp⟩:=hk
    exact⟨_,rfl,(.inr (.inl ⟨_,rfl,p,dx,_,rfl,hp,rfl,_,rfl,_,rfl,p,dx,b,l,fi,rfl,hp,hok,hlf,_,_,rfl,rfl,rfl,_,rfl⟩))⟩
   |nea d=>
    obtain⟨dx,hp⟩:=hk
    exact⟨_,rfl,(.inr (.inr (.inl ⟨_,rfl,p,dx,_,rfl,hp,rfl,_,rfl,_,rfl,p,dx,d,l,fi,rfl,hp,⟨hok,hlf⟩,_,_,rfl,rfl,rfl,_,rfl⟩)))⟩
   |wrk=>
    obtain⟨dx,hp⟩:=hk
    exact⟨_,rfl,(.inr (.inr (.inr (.inl ⟨_,rfl,p,dx,_,rfl,hp,rfl,_,rfl,_,rfl,p,dx,l,fi,rfl,hp,hlf.last,_,_,rfl,rfl,rfl,_,rfl⟩))))⟩
   |wkd m=>
    obtain⟨dx,hp⟩:=hk
    exact⟨_,rfl,(.inr (.inr (.inr (.inr (.inl ⟨_,rfl,p,dx,_,rfl,hp,rfl,_,rfl,_,rfl,p,dx,m,l,fi,rfl,hp,hok,hlf,_,_,rfl,rfl,rfl,_,rfl⟩)))))⟩
   |nth w m=>
    obtain⟨dx,hp⟩:=hk
    exact⟨_,rfl,(.inr (.inr (.inr (.inr (.inr (.inl ⟨_,rfl,p,dx,_,rfl,hp,azJ _ _,_,rfl,_,rfl,p,dx,w,m,l,fi,rfl,hp,hok.1,hok.2,hlf,_,_,rfl,rfl,rfl,_,rfl⟩))))))⟩
   |one w=>
    obtain⟨dx,hp⟩:=hk
    exact⟨_,rfl,(.inr (.inr (.inr (.inr (.inr (.inr (.inl ⟨_,rfl,p,dx,_,rfl,hp,rfl,_,rfl,_,rfl,p,dx,w,l,fi,rfl,hp,hok,hlf,_,_,rfl,rfl,rfl,_,rfl⟩)))))))⟩
   |nil=>
    obtain⟨dx,hp⟩:=hk
    exact⟨_,rfl,(.inr (.inr (.inr (.inr (.inr (.inr (.inr ⟨_,rfl,p,dx,_,rfl,hp,rfl,_,rfl,_,rfl,p,l,fi,rfl,_,_,rfl,rfl,rfl,_,rfl⟩)))))))⟩
theorem agW:Df P w K mg base "read_day_mark" 4 ["item"] (agK K C_Numbers C_Last C_Near C_LastWork C_Weekdays C_Nth C_LastOne C_Mark):=by
 refine ZZ.F_read_day_mark.dfs sc_read_day_mark (fun vs H Q E h=>?_) (fun f cdv A outer s H vs Q E hr h=>?_)
 ·obtain⟨t,rfl,hl,q⟩:=h
  rfl
 obtain⟨t,rfl,hl,q⟩:=h
 refine⟨_,(ssC (sIf (tCm oEq (v_ 0) (eSx [76])) (ss1 (aaF (eMkD ZZ.c_Last (acU ZZ) hr))) ssN)
   (ssC (sIf (tCm oEq (v_ 0) (eSx [76,87])) (ss1 (aaF (eMkN ZZ.c_LastWork ZZ.i_LastWork))) ssN)
   (ssC (sIf (tVa (eSwN (v_ 0) (eSx [76,45]))) (ssC (aaI 1 (eD (aa4 ZZ) hr (aC (eSl slX (v_ 0) (poS eI) poN) (aC eI (aC (eGl (v:=.int 30) ZZ.m_MOST_BACK ⟨_,rfl⟩) aN)))) sc_read_day_mark.nd)
   (ss1 (aaF (eIf (tCm aeA (v_ 1) eN) eN (eMk ZZ.c_Last (acU ZZ).dfm hr (aC (v_ 1) aN)))))) ssN)
   (ssC (sIf (tVa (eEw (v_ 0) (eSx [87]))) (ssC (aaI 2 (eD (aa4 ZZ) hr (aC (eSl slX (v_ 0) poN (poS (eUn aq1 eI))) (aC eI (aC (eGl (v:=.int 31) ZZ.m_MOST_DAY ⟨_,rfl⟩) aN)))) sc_read_day_mark.nd)
   (ss1 (aaF (eIf (tCm aeA (v_ 2) eN) eN (eMk ZZ.c_Near (agI ZZ) hr (aC (v_ 2) aN)))))) ssN)
   (ss1 (aaF eN)))))),?_⟩
 have hz:t.length<=sizeLine:=by rw[sizeLine_eq];omega
 have hc1:=af3 t (some 2) none
 have hc2:=af3 t none (some (-1))
 refine⟨_,rfl,rfl,_,rfl,ifX (fun c=>?a0) (fun c1=>⟨_,rfl,rfl,_,rfl,ifX (fun c=>?a1) (fun c2=>⟨_,rfl,rfl,t,[76,45],rfl,rfl,_,rfl,ifD (fun c=>?a2) (fun c3=>⟨_,rfl,rfl,t,87,rfl,rfl,_,rfl,ifD (fun c=>?a3) (fun c4=>?a4)⟩)⟩)⟩)⟩
 case a0=>
  have e:acV t=some (.lst 0):=by unfold acV;rw[if_pos c]
  rw[e] at q
  exact fun xo dx nx ndx nex=>⟨xo,dx,0,rfl,aaA,rfl,q _ _ (ab9 nx ndx) ⟨xo,rfl,dx,aaA⟩⟩
 case a1=>
  have e:acV t=some .wrk:=by unfold acV;rw[if_neg c1,if_pos c]
  rw[e] at q
  exact fun xo dx nx ndx nex=>q _ _ (ajZ nx ndx) ⟨xo,rfl,dx,aaA⟩
 case a2=>
  have e:acV t=(aaP 1 30 (aeS t (some 2) none)).map Mk.lst:=by unfold acV;rw[if_neg c1,if_neg c2,if_pos c]
  rw[e] at q
  refine⟨_,rfl,_,rfl,t,rfl,hz,_,1,30,rfl,(by omega),fun H1 s1=>?_⟩
  cases en:aaP 1 30 (aeS t (some 2) none) with
  |none=>
   rw[en] at q
   exact⟨_,rfl,rfl,_,rfl,ifT rfl (q _ _ s1 rfl)⟩
  |some b=>
   rw[en] at q
   exact⟨_,rfl,rfl,_,rfl,ifF rfl ⟨_,rfl,fun xo dx nx ndx nex=>⟨xo,dx,_,rfl,aaA,rfl,q _ _ (s1.trans (ab9 nx ndx)) ⟨xo,rfl,dx,aaA⟩⟩⟩⟩
 case a3=>
  have e:acV t=(aaP 1 31 (aeS t none (some (-1)))).map Mk.nea:=by unfold acV;rw[if_neg c1,if_neg c2,if_neg c3,if_pos c]
  rw[e] at q
  refine⟨_,rfl,_,rfl,_,rfl,t,rfl,hz,_,1,31,rfl,(by omega),fun H1 s1=>?_⟩
  cases en:aaP 1 31 (aeS t none (some (-1))) with
  |none=>
   rw[en] at q
   exact⟨_,rfl,rfl,_,rfl,ifT rfl (q _ _ s1 rfl)⟩
  |some b=>
   rw[en] at q
   exact⟨_,rfl,rfl,_,rfl,ifF rfl ⟨_,rfl,fun xo dx nx ndx nex=>⟨xo,dx,_,rfl,aaA,rfl,q _ _ (s1.trans (ab9 nx ndx)) ⟨xo,rfl,dx,aaA⟩⟩⟩⟩
 case a4=>
  have e:acV t=none:=by unfold acV;rw[if_neg c1,if_neg c2,if_neg c3,if_neg c4]
  rw[e] at q
  exact q _ _ (Same.refl H) rfl
theorem adN:Df P w K mg base "read_weekday" 4 ["text"] (aiK K):=by
 refine ZZ.F_read_weekday.dfs sc_read_weekday (fun vs H Q E h=>?_) (fun f cdv A outer s H vs Q E hr h=>?_)
 ·obtain⟨t,rfl,hl,q⟩:=h
  rfl
 obtain⟨t,rfl,hl,q⟩:=h
 refine⟨_,(ssC (aaI 1 (eD (aa4 ZZ) hr (aC (v_ 0) (aC eI (aC (eGl (v:=.int 7) ZZ.m_SUNDAY_TOO ⟨_,rfl⟩) aN)))) sc_read_weekday.nd)
   (ss1 (aaF (eIf (tCm oEq (v_ 1) (eGl (v:=.int 7) ZZ.m_SUNDAY_TOO ⟨_,rfl⟩)) (eGl (v:=.int 0) ZZ.m_SUNDAY ⟨_,rfl⟩) (v_ 1))))),?_⟩
 refine⟨_,rfl,t,0,7,rfl,(by omega),fun H1 s1=>?_⟩
 cases en:aaP 0 7 t with
 |none=>
  have e:wdN t=none:=by unfold wdN;rw[en];rfl
  rw[e] at q
  exact⟨_,rfl,rfl,_,rfl,ifF (decide_eq_false fun z=>nomatch z) ⟨_,rfl,q _ s1⟩⟩
 |some n=>
  have e:wdN t=some (if n=7 then 0 else n):=by unfold wdN;rw[en];rfl
  rw[e] at q
  refine⟨_,rfl,rfl,_,rfl,ifI (fun c=>?_) (fun c=>⟨_,rfl,?_⟩)⟩
  ·rw[if_pos c] at q
   exact q _ s1
  ·rw[if_neg c] at q
   exact q _ s1
theorem ad3:Df P w K mg base "read_weekday_mark" 5 ["item"] (ad8 K C_Numbers C_Last C_Near C_LastWork C_Weekdays C_Nth C_LastOne C_Mark):=by
 refine ZZ.F_read_weekday_mark.dfs sc_read_weekday_mark (fun vs H Q E h=>?_) (fun f cdv A outer s H vs Q E hr h=>?_)
 ·obtain⟨t,rfl,hl,q⟩:=h
  rfl
 obtain⟨t,rfl,hl,q⟩:=h
 refine⟨_,(ssC (sIf (tVa (eEw (v_ 0) (eSx [76]))) (ssC (aaI 1 (eD (adN ZZ) hr (aC (eSl slX (v_ 0) poN (poS (eUn aq1 eI))) aN)) sc_read_weekday_mark.nd)
   (ss1 (aaF (eIf (tCm aeA (v_ 1) eN) eN (eMk ZZ.c_LastOne (aeQ ZZ) hr (aC (v_ 1) aN)))))) ssN)
   (ssC (aaI 2 (asW (v_ 0) (eSx [35])) sc_read_weekday_mark.nd)
   (ssC (sIf (tCm oNe (eCB amJ ZZ.z_len PySem.boot_len (aC (v_ 2) aN)) eI) (ss1 (aaF eN)) ssN)
   (ssC (aaI 1 (eD (adN ZZ) hr (aC (eIx xL (v_ 2) eI) aN)) sc_read_weekday_mark.nd)
   (ssC (aaI 3 (eD (aa4 ZZ) hr (aC (eIx xL (v_ 2) eI) (aC eI (aC (eGl (v:=.int 5) ZZ.m_MOST_NTH ⟨_,rfl⟩) aN)))) sc_read_weekday_mark.nd)
   (ssC (sIf (tW (wOr (tCm aeA (v_ 1) eN) (akT (tCm aeA (v_ 3) eN)))) (ss1 (aaF eN)) ssN)
   (ss1 (aaF (eMk ZZ.c_Nth (aiG ZZ) hr (aC (v_ 1) (aC (v_ 3) aN))))))))))),?_⟩
 have hz:t.length<=sizeLine:=by rw[sizeLine_eq];omega
 have hc2:=af3 t none (some (-1))
 have hsl:=af6 35 t
 have hml:=abK 35 t
 refine⟨_,rfl,rfl,t,76,rfl,rfl,_,rfl,ifD (fun c=>?a0) (fun c1=>?a1)⟩
 case a0=>
  have e:anZ t=(wdN (aeS t none (some (-1)))).map Mk.one:=by unfold anZ;rw[if_pos c]
  rw[e] at q
  refine⟨_,rfl,_,rfl,_,rfl,t,rfl,hz,_,rfl,(by omega),fun H1 s1=>?_⟩
  cases en:wdN (aeS t none (some (-1))) with
  |none=>
   rw[en] at q
   exact⟨_,rfl,rfl,_,rfl,ifT rfl (q _ _ s1 rfl)⟩
  |some b=>
   rw[en] at q
   exact⟨_,rfl,rfl,_,rfl,ifF rfl ⟨_,rfl,fun xo dx nx ndx nex=>⟨xo,dx,_,rfl,aaA,rfl,q _ _ (s1.trans (ab9 nx ndx)) ⟨xo,rfl,dx,aaA⟩⟩⟩⟩
 case a1=>
  refine⟨_,rfl,rfl,t,35,rfl,rfl,(by rw[sizeLine_eq];omega),fun ps hps=>?_⟩
  have s0:=aaB hps (.lst ((spl 35 t).map fun q=>V.str (Tx q)))
  refine⟨_,rfl,ps,_,rfl,.inl (SqL.of aaA),rfl,_,rfl,?_⟩
  have two:(∃a b,spl 35 t=[a,b])∨(∀a b,spl 35 t≠[a,b]):=by
   by_cases z:∃a b,spl 35 t=[a,b]
   ·exact .inl z
   ·exact .inr fun r s e=>z ⟨r,s,e⟩
  rcases two with ⟨a,b,e2⟩ | hno
  ·have e:anZ t=aD3 (wdN a) (aaP 1 5 b):=by unfold anZ;rw[if_neg c1,e2]
   rw[e] at q
   have h1:=hml a (by rw[e2];simp)
   have h2:=hml b (by rw[e2];simp)
   rw[e2]
   refine ifF rfl ⟨_,rfl,ps,_,_,_,rfl,rfl,SqL.of aaA,rfl,a,rfl,(by omega),fun H1 s1=>?_⟩
   refine⟨_,rfl,ps,_,_,_,rfl,rfl,SqL.of (s1 _ _ aaA),rfl,b,1,5,rfl,(by omega),fun H2 s2=>?_⟩
   rw[e2] at s0
   cases ew:wdN a with
   |none=>
    rw[ew] at q
    exact⟨_,rfl,rfl,_,rfl,ifT rfl (q _ _ (s0.trans (s1.trans s2)) rfl)⟩
   |some wd=>
    rw[ew] at q
    refine⟨_,rfl,rfl,_,rfl,ifF rfl ⟨_,rfl,rfl,_,rfl,?_⟩⟩
    cases en:aaP 1 5 b with
    |none=>
     rw[en] at q
     exact ifT rfl (q _ _ (s0.trans (s1.trans s2)) rfl)
    |some m=>
     rw[en] at q
     exact ifF rfl ⟨_,rfl,_,rfl,fun xo dx nx ndx nex=>⟨xo,dx,_,_,rfl,aaA,rfl,q _ _ (s0.trans (s1.trans (s2.trans (axL nx ndx)))) ⟨xo,rfl,dx,aaA⟩⟩⟩
  ·have hlen:¬(spl 35 t).length=2:=fun e=>by
    match h:spl 35 t,e with
    |[r,s],_=>exact hno r s h
   have e:anZ t=none:=by
    unfold anZ
    rw[if_neg c1]
    split
    ·rename_i a b h
     exact absurd h (hno a b)
    ·rfl
   rw[e] at q
   refine ifT ?_ (q _ _ s0 rfl)
   rw[decide_eq_false fun z=>hlen (by have z:=V.int.inj z;rw[List.length_map] at z;omega)]
   rfl
theorem ae7:Df P w K mg base "read_items" 7 ["text","low","high","read_mark"] (ak3 K C_Numbers C_Last C_Near C_LastWork C_Weekdays C_Nth C_LastOne C_Mark C_read_day_mark C_read_weekday_mark):=by
 refine ZZ.F_read_items.dfs sc_read_items (fun vs H Q E h=>?_) (fun f cdv A outer s H vs Q E hr h=>?_)
 ·obtain⟨l,lo,hi,wk,rfl,hb,hok,q⟩:=h
  rfl
 obtain⟨l,lo,hi,wk,rfl,hb,hok,q⟩:=h
 refine⟨_,(ssC (sIf (tW (wOr (tNo (tVa (eCB cIs ZZ.z_isinstance PyProof.Rows.boot_isinstance (aC (v_ 0) (aC (eTy ZZ.z_str PyProof.Rows.boot_str) aN))))) (akT (tCm oGt (eCB at5 ZZ.z_len PySem.boot_len (aC (v_ 0) aN)) (eGl (v:=.int 300) ZZ.m_MOST_SIGNS ⟨_,rfl⟩))))) (ss1 amD) ssN)
   (ssC (aaI 4 (asW (v_ 0) (eSx [44])) sc_read_items.nd)
   (ssC (aaI 5 eI sc_read_items.nd)
   (ssC (aaI 6 (abW aN) sc_read_items.nd)
   (ssC (afK (iE ZZ.z_enumerate (eSl slL (v_ 4) poN (poS (eGl (v:=.int 40) ZZ.m_MOST_ITEMS ⟨_,rfl⟩)))) (gTu (gsC (gN 7 sc_read_items.nd) (gsC (gN 8 sc_read_items.nd) gsN))) (ssC (aaI 9 (eD (afZ ZZ) hr (aC (v_ 8) (aC (v_ 1) (aC (v_ 2) aN)))) sc_read_items.nd)
   (ss1 (sIf (tCm aeA (v_ 9) eN) (ssC (aaI 10 (aoD (eDV ((agW ZZ).at_ ZZ.m_read_day_mark) hr (v_ 3) (aC (v_ 8) aN)) (eDV ((ad3 ZZ).at_ ZZ.m_read_weekday_mark) hr (v_ 3) (aC (v_ 8) aN))) sc_read_items.nd)
   (ssC (sIf (tW (wOr (tCm aeA (v_ 10) eN) (akT (tCm oEq (eCB amJ ZZ.z_len PySem.boot_len (aC (v_ 6) aN)) (eGl (v:=.int 20) ZZ.m_MOST_MARKS ⟨_,rfl⟩))))) (ss1 amD) ssN)
   (ss1 (atZ (atK (v_ 6) (v_ 10)))))) (ss1 (aaI 5 (eOp oOr (v_ 5) (v_ 9)) sc_read_items.nd))))) PassesOwn.never)
   (ssC (sIf (tCm oGt (eCB amJ ZZ.z_len PySem.boot_len (aC (v_ 4) aN)) (eGl (v:=.int 40) ZZ.m_MOST_ITEMS ⟨_,rfl⟩)) (ss1 amD) ssN)
   (ss1 (aaF (aa5 (aC (v_ 5) (aC (v_ 6) aN))))))))))),?_⟩
 have hl:=hok.len
 have hml:=abK 44 l
 refine⟨_,rfl,_,.str,.str,rfl,(by decide),rfl,_,rfl,ifF rfl ⟨_,rfl,l,rfl,(by rw[sizeLine_eq];omega),_,_,rfl,rfl,_,rfl,?_⟩⟩
 rw[decide_eq_false (show ¬(300:Int)<((l.length:Nat):Int) by omega)]
 refine aaU ⟨_,rfl,rfl,l,44,rfl,rfl,(by rw[sizeLine_eq];omega),fun ps hps=>?_⟩
 have s0:=aaB hps (.lst ((spl 44 l).map fun q=>V.str (Tx q)))
 refine⟨(by show 0<=sizeLine;decide),fun mk hmk=>?_⟩
 have s1:=aaB hmk (.lst [])
 refine⟨_,rfl,_,rfl,ps,_,rfl,SqL.of (s1 _ _ aaA),fun pc hpc=>?_⟩
 have ecut:ahZ ((spl 44 l).map fun q=>V.str (Tx q)) none (some 40)=(spl 44 l).map fun q=>V.str (Tx q):=aEC (by rw[List.length_map];exact hok.few)
 rw[ecut]
 have hne:pc≠mk:=fun e=>by
  rw[e,aaA] at hpc
  cases hpc
 have s1b:=aaB hpc (.lst ((spl 44 l).map fun q=>V.str (Tx q)))
 refine⟨pc,rfl,⟨_,SqL.of aaA⟩,apP (K:=K) (a:=pc) (xs:=(spl 44 l).map fun q=>V.str (Tx q)) (fun i σ H2=>∃(u1 u2 u3 u4:Option V) (qs:List Addr),σ=[some (.str (Tx l)),some (.int lo),some (.int hi),some (.ref (if wk=true then C_read_weekday_mark else C_read_day_mark)),some (.ref ps),some (.int (orM (plP lo hi ((spl 44 l).take i)))),some (.ref mk),u1,u2,u3,u4]/\Same (upd H ps (.lst ((spl 44 l).map fun q=>V.str (Tx q)))) H2/\H2 pc=some (.lst ((spl 44 l).map fun q=>V.str (Tx q)))/\H2 mk=some (.lst (qs.map V.ref))/\Ft (MkAt (⟨C_Numbers,C_Last,C_Near,C_LastWork,C_Weekdays,C_Nth,C_LastOne,C_Mark⟩:Cs) H2) qs (mkP wk lo hi ((spl 44 l).take i))) ⟨_,_,_,_,[],rfl,s1.trans s1b,aaA,s1b _ _ aaA,.nil⟩ (fun i σ H2 _ ⟨_,_,_,_,_,_,_,h,_⟩=>SqL.of h) ?turn ?done⟩
 case turn=>
  rintro i x σ H2 T hx ⟨u1,u2,u3,u4,qs,rfl,s2,h2c,h2m,hq⟩ hT
  rw[List.getElem?_map] at hx
  cases ew:(spl 44 l)[i]? with
  |none=>rw[ew] at hx;cases hx
  |some w0=>
   rw[ew] at hx
   obtain rfl:V.str (Tx w0)=x:=Option.some.inj hx
   have hw:=hml w0 (List.mem_of_getElem? ew)
   refine⟨T,_,rfl,SqT.of aaA,rfl,_,_,rfl,_,_,rfl,rfl,?_⟩
   refine⟨_,rfl,_,rfl,_,rfl,w0,lo,hi,rfl,(by omega),hb,fun H3 s3=>?_⟩
   cases em:aaH lo hi w0 with
   |some m=>
    have et:(spl 44 l).take (i+1)=(spl 44 l).take i++[w0]:=by rw[List.take_succ,ew];rfl
    have s23:=(aaB hT _).trans s3
    refine⟨_,rfl,rfl,_,rfl,ifF rfl ⟨_,rfl,_,rfl,_,_,rfl,rfl,?_⟩⟩
    exact⟨_,_,_,_,qs,by rw[et,aCT em,afS];rfl,s2.trans s23,s23 _ _ h2c,s23 _ _ h2m,by rw[et,aIF em];exact hq.keepM s23.keep⟩
   |none=>
    cases wk with
    |false=>
     have hso:(rdM false w0).isSome=true:=by
      rcases hok.all w0 (List.mem_of_getElem? ew) with h | h
      ·rw[em] at h;cases h
      ·exact h
     obtain⟨k,ek⟩:=Option.isSome_iff_exists.mp hso
     have ek':acV w0=some k:=ek
     refine⟨_,rfl,rfl,_,rfl,ifT rfl ?_⟩
     refine .inl ⟨_,rfl,rfl,_,rfl,w0,rfl,(by omega),fun v H4 s4 hv=>?_⟩
     rw[ek'] at hv
     obtain⟨x,rfl,hx⟩:=hv
     have s24:=(aaB hT _).trans (s3.trans s4)
     have hq4:=hq.keepM s24.keep
     have lq:qs.length=(mkP false lo hi ((spl 44 l).take i)).length:=Paired.length hq
     have l1:=aoK false lo hi (spl 44 l) (i+1)
     have et:(spl 44 l).take (i+1)=(spl 44 l).take i++[w0]:=by rw[List.take_succ,ew];rfl
     rw[et,aiS em ek,List.length_append,List.length_singleton] at l1
     have hm20:=hok.most
     refine⟨_,rfl,rfl,_,rfl,ifF rfl ⟨_,rfl,mk,_,rfl,.inl (SqL.of (s24 _ _ h2m)),rfl,_,rfl,?_⟩⟩
     refine ifI (fun c=>?_) (fun c=>?_)
     ·rw[List.length_map] at c
      omega
     refine⟨_,rfl,.inl ⟨rfl,_,SqL.of (s24 _ _ h2m)⟩,_,rfl,mk,_,_,rfl,rfl,s24 _ _ h2m,(by rw[List.length_map,sizeLine_eq];omega),?_⟩
     have kp:=ad5 (l':=qs.map V.ref++[.ref x]) (s24 _ _ h2m)
     exact⟨_,_,_,_,qs++[x],by rw[et,auL em];rfl,acE hmk (s2.trans s24),by rw[aaG hne];exact s24 _ _ h2c,by rw[List.map_append];exact aaA,by rw[et,aiS em ek];exact Ft.app (hq4.keepM kp) (.cons (hx.keep kp) .nil)⟩
    |true=>
     have hso:(rdM true w0).isSome=true:=by
      rcases hok.all w0 (List.mem_of_getElem? ew) with h | h
      ·rw[em] at h;cases h
      ·exact h
     obtain⟨k,ek⟩:=Option.isSome_iff_exists.mp hso
     have ek':anZ w0=some k:=ek
     refine⟨_,rfl,rfl,_,rfl,ifT rfl ?_⟩
     refine .inr ⟨_,rfl,rfl,_,rfl,w0,rfl,(by omega),fun v H4 s4 hv=>?_⟩
     rw[ek'] at hv
     obtain⟨x,rfl,hx⟩:=hv
     have s24:=(aaB hT _).trans (s3.trans s4)
     have hq4:=hq.keepM s24.keep
     have lq:qs.length=(mkP true lo hi ((spl 44 l).take i)).length:=Paired.length hq
     have l1:=aoK true lo hi (spl 44 l) (i+1)
     have et:(spl 44 l).take (i+1)=(spl 44 l).take i++[w0]:=by rw[List.take_succ,ew];rfl
     rw[et,aiS em ek,List.length_append,List.length_singleton] at l1
     have hm20:=hok.most
     refine⟨_,rfl,rfl,_,rfl,ifF rfl ⟨_,rfl,mk,_,rfl,.inl (SqL.of (s24 _ _ h2m)),rfl,_,rfl,?_⟩⟩
     refine ifI (fun c=>?_) (fun c=>?_)
     ·rw[List.length_map] at c
      omega
     refine⟨_,rfl,.inl ⟨rfl,_,SqL.of (s24 _ _ h2m)⟩,_,rfl,mk,_,_,rfl,rfl,s24 _ _ h2m,(by rw[List.length_map,sizeLine_eq];omega),?_⟩
     have kp:=ad5 (l':=qs.map V.ref++[.ref x]) (s24 _ _ h2m)
     exact⟨_,_,_,_,qs++[x],by rw[et,auL em];rfl,acE hmk (s2.trans s24),by rw[aaG hne];exact s24 _ _ h2c,by rw[List.map_append];exact aaA,by rw[et,aiS em ek];exact Ft.app (hq4.keepM kp) (.cons (hx.keep kp) .nil)⟩
 case done=>
  rintro σ H2 ⟨u1,u2,u3,u4,qs,rfl,s2,h2c,h2m,hq⟩
  refine⟨_,rfl,ps,_,rfl,.inl (SqL.of (s2 _ _ aaA)),_,_,rfl,rfl,_,rfl,?_⟩
  have hfew:=hok.few
  rw[decide_eq_false (show ¬(40:Int)<((((spl 44 l).map fun q=>V.str (Tx q)).length:Nat):Int) by rw[List.length_map];omega)]
  rw[List.length_map,List.take_length] at hq ⊢
  refine aaU ⟨_,rfl,_,rfl,(by show 2<=sizeLine;decide),fun p hp=>?_⟩
  have s3:=aaB hp (.tup [.int (orM (plP lo hi (spl 44 l))),.ref mk])
  exact q p mk qs _ (none_of s0 hmk) (s0.trans (s2.trans s3)) aaA (s3 _ _ h2m) (hq.keepM s3.keep)
theorem anV:Df P w K mg base "read_days" 8 ["text"] (anM K C_Numbers C_Last C_Near C_LastWork C_Weekdays C_Nth C_LastOne C_Mark):=by
 refine ZZ.F_read_days.dfs sc_read_days (fun vs H Q E h=>?_) (fun f cdv A outer s H vs Q E hr h=>?_)
 ·obtain⟨l,rfl,hok,q1,q2⟩:=h
  rfl
 obtain⟨l,rfl,hok,q1,q2⟩:=h
 refine⟨_,(ssC (aaI 1 (eD (ae7 ZZ) hr (aC (v_ 0) (aC eI (aC (eGl (v:=.int 31) ZZ.m_MOST_DAY ⟨_,rfl⟩) (aC (eGl (v:=.ref C_read_day_mark) ZZ.m_read_day_mark rfl) aN))))) sc_read_days.nd)
   (ssC (sIf (tCm oEq (v_ 0) (eSx [42])) (ss1 (aaF eN)) ssN)
   (ssC (sIf (tCm oEq (eIx xT (v_ 1) eI) eI) (ss1 (aaF (eIx xT (v_ 1) eI))) ssN)
   (ss1 (aaF (eOp aBC (abW (aC (eMk ZZ.c_Numbers (aeP ZZ) hr (aC (eIx xT (v_ 1) eI) aN)) aN)) (eIx xT (v_ 1) eI))))))),?_⟩
 refine⟨_,rfl,l,1,31,false,rfl,⟨by decide,by decide,by decide⟩,hok,fun p m qs H1 hmn s1 hp hm hq=>?_⟩
 have lq:qs.length<=20:=by
  have:=Paired.length hq
  have:=hok.most
  omega
 refine⟨_,rfl,rfl,_,rfl,ifX (fun c=>q1 c _ s1) (fun c=>?_)⟩
 have q2:=q2 c
 unfold ai8 at q2
 generalize mkP false 1 31 (spl 44 l)=ms at hq q2
 generalize orM (plP 1 31 (spl 44 l))=M at hp q2
 refine⟨_,rfl,p,_,_,_,rfl,rfl,SqT.of hp,rfl,rfl,_,rfl,ifI (fun c0=>⟨_,rfl,p,_,_,_,rfl,rfl,SqT.of hp,rfl,q2 m qs _ hmn s1 hm ?_⟩) (fun c0=>?_)⟩
 ·have e:afA false M=[]:=by unfold afA;rw[if_pos c0]
  rw[e]
  exact hq
 have e:afA false M=[.num M]:=by unfold afA;rw[if_neg c0];rfl
 rw[e] at q2
 refine⟨_,rfl,p,_,_,_,rfl,rfl,SqT.of hp,rfl,fun xo dx nx ndx nex=>⟨xo,dx,_,rfl,aaA,rfl,(by show 1<=sizeLine;decide),fun l1 hl1=>?_⟩⟩
 have n1:Same H1 (upd (upd (upd H1 dx (.own xo)) xo (.ins C_Numbers dx [])) xo (.ins C_Numbers dx [("mask",.int M)])):=ab9 nx ndx
 have n2:=n1.trans (aaB hl1 (.lst [.ref xo]))
 refine⟨_,rfl,p,_,_,_,rfl,rfl,SqT.of (n2 _ _ hp),rfl,l1,m,_,_,rfl,rfl,aaA,n2 _ _ hm,(by rw[List.length_map,sizeLine_eq];show 1+_<=_;omega),fun l2 hl2=>?_⟩
 have n3:=n2.trans (aaB hl2 (.lst ([.ref xo]++qs.map V.ref)))
 exact q2 l2 (xo::qs) _ (none_of (s1.trans n2) hl2) (s1.trans n3) aaA (.cons ⟨dx,(aaB hl2 _) _ _ ((aaB hl1 _) _ _ aaA)⟩ (hq.keepM n3.keep))
theorem agH:Df P w K mg base "read_weekdays" 8 ["text"] (agZ K C_Numbers C_Last C_Near C_LastWork C_Weekdays C_Nth C_LastOne C_Mark):=by
 refine ZZ.F_read_weekdays.dfs sc_read_weekdays (fun vs H Q E h=>?_) (fun f cdv A outer s H vs Q E hr h=>?_)
 ·obtain⟨l,rfl,hok,q1,q2⟩:=h
  rfl
 obtain⟨l,rfl,hok,q1,q2⟩:=h
 refine⟨_,(ssC (aaI 1 (eD (ae7 ZZ) hr (aC (v_ 0) (aC eI (aC (eGl (v:=.int 7) ZZ.m_SUNDAY_TOO ⟨_,rfl⟩) (aC (eGl (v:=.ref C_read_weekday_mark) ZZ.m_read_weekday_mark rfl) aN))))) sc_read_weekdays.nd)
   (ssC (sIf (tCm oEq (v_ 0) (eSx [42])) (ss1 (aaF eN)) ssN)
   (ssC (sIf (tCm oEq (eIx xT (v_ 1) eI) eI) (ss1 (aaF (eIx xT (v_ 1) eI))) ssN)
   (ssC (aaI 2 (eOp ah2 (eOp oOr (eIx xT (v_ 1) eI) (eOp aj2 (eIx xT (v_ 1) eI) (eGl (v:=.int 7) ZZ.m_SUNDAY_TOO ⟨_,rfl⟩))) (eGl (v:=.int 127) ZZ.m_ALL_WEEKDAYS ⟨_,rfl⟩)) sc_read_weekdays.nd)
   (ss1 (aaF (eOp aBC (abW (aC (eMk ZZ.c_Weekdays (ad1 ZZ) hr (aC (v_ 2) aN)) aN)) (eIx xT (v_ 1) eI)))))))),?_⟩
 refine⟨_,rfl,l,0,7,true,rfl,⟨by decide,by decide,by decide⟩,hok,fun p m qs H1 hmn s1 hp hm hq=>?_⟩
 have lq:qs.length<=20:=by
  have:=Paired.length hq
  have:=hok.most
  omega
 refine⟨_,rfl,rfl,_,rfl,ifX (fun c=>q1 c _ s1) (fun c=>?_)⟩
 have q2:=q2 c
 unfold ai8 at q2
 generalize mkP true 0 7 (spl 44 l)=ms at hq q2
 generalize orM (plP 0 7 (spl 44 l))=M at hp q2
 refine⟨_,rfl,p,_,_,_,rfl,rfl,SqT.of hp,rfl,rfl,_,rfl,ifI (fun c0=>⟨_,rfl,p,_,_,_,rfl,rfl,SqT.of hp,rfl,q2 m qs _ hmn s1 hm ?_⟩) (fun c0=>?_)⟩
 ·have e:afA true M=[]:=by unfold afA;rw[if_pos c0]
  rw[e]
  exact hq
 have e:afA true M=[.wkd (wk7 M)]:=by unfold afA;rw[if_neg c0];rfl
 rw[e] at q2
 refine⟨_,rfl,p,_,_,_,rfl,rfl,SqT.of hp,rfl,_,rfl,p,_,_,_,rfl,rfl,SqT.of hp,rfl,_,_,rfl,rfl,(by show (0:Int)<=7;decide),_,_,rfl,rfl,_,_,rfl,rfl,?_⟩
 refine⟨_,rfl,fun xo dx nx ndx nex=>⟨xo,dx,_,rfl,aaA,rfl,(by show 1<=sizeLine;decide),fun l1 hl1=>?_⟩⟩
 have n1:Same H1 (upd (upd (upd H1 dx (.own xo)) xo (.ins C_Weekdays dx [])) xo (.ins C_Weekdays dx [("mask",.int (wk7 M))])):=ab9 nx ndx
 have n2:=n1.trans (aaB hl1 (.lst [.ref xo]))
 refine⟨_,rfl,p,_,_,_,rfl,rfl,SqT.of (n2 _ _ hp),rfl,l1,m,_,_,rfl,rfl,aaA,n2 _ _ hm,(by rw[List.length_map,sizeLine_eq];show 1+_<=_;omega),fun l2 hl2=>?_⟩
 have n3:=n2.trans (aaB hl2 (.lst ([.ref xo]++qs.map V.ref)))
 exact q2 l2 (xo::qs) _ (none_of (s1.trans n2) hl2) (s1.trans n3) aaA (.cons ⟨dx,(aaB hl2 _) _ _ ((aaB hl1 _) _ _ aaA)⟩ (hq.keepM n3.keep))
theorem apX:Df P w K mg base "month_at" 3 ["kind"] (aoR K):=by
 refine ZZ.F_month_at.dfs sc_month_at (fun vs H Q E h=>?_) (fun f cdv A outer s H vs Q E hr h=>?_)
 ·obtain⟨k,rfl,hk,q⟩:=h
  rfl
 obtain⟨k,rfl,hk,q⟩:=h
 refine⟨_,(ssC (aaI 1 (eOp afQ (v_ 0) eI) sc_month_at.nd)
   (ssC (aaI 2 (eOp aaW (v_ 0) eI) sc_month_at.nd)
   (ssC (sIf (tCm oEq (v_ 1) (eGl (v:=.int 12) ZZ.m_LONG_PLACE ⟨_,rfl⟩)) (ss1 (aaF (aa5 (aC eI (aC (eGl (v:=.int 29) ZZ.m_LONG_LAST ⟨_,rfl⟩) (aC (v_ 2) aN)))))) ssN)
   (ss1 (aaF (aa5 (aC (eOp aaL (v_ 1) eI) (aC (eD (acA ZZ) hr (aC (eGl (v:=.int 1) ZZ.m_SHORT_YEAR ⟨_,rfl⟩) (aC (eOp aaL (v_ 1) eI) aN))) (aC (v_ 2) aN))))))))),?_⟩
 refine⟨_,rfl,_,_,rfl,rfl,⟨by decide,by decide⟩,?_⟩
 refine⟨_,rfl,_,_,rfl,rfl,(by show (0:Int)<7;decide),?_⟩
 refine⟨_,rfl,rfl,_,rfl,ifI (fun c=>?_) (fun c=>?_)⟩
 ·refine⟨_,rfl,(by show 3<=sizeLine;decide),fun p hp=>?_⟩
  exact q p _ (aaB hp _) (by unfold ai0;rw[if_pos c];exact aaA)
 ·refine⟨_,rfl,_,_,rfl,rfl,_,rfl,_,_,rfl,rfl,_,_,rfl,⟨by omega,by omega⟩,_,rfl,(by show 3<=sizeLine;decide),fun p hp=>?_⟩
  exact q p _ (aaB hp _) (by unfold ai0;rw[if_neg c];exact aaA)
theorem aoG:Df P w K mg base "times_of" 3 ["hours","minutes"] (an8 K):=by
 refine ZZ.F_times_of.dfs sc_times_of (fun vs H Q E h=>?_) (fun f cdv A outer s H vs Q E hr h=>?_)
 ·obtain⟨h,m,rfl,hh,hm,q⟩:=h
  rfl
 obtain⟨h,m,rfl,hh,hm,q⟩:=h
 refine⟨_,(ssC (aaI 2 eI sc_times_of.nd)
   (ssC (afK (iL (eD (akS ZZ) hr (aC (v_ 0) aN))) (gN 3 sc_times_of.nd) (ss1 (aaI 2 (eOp oOr (v_ 2) (eOp afE (v_ 1) (eOp acS (eGl (v:=.int 60) ZZ.m_HOUR_MINUTES ⟨_,rfl⟩) (v_ 3)))) sc_times_of.nd)) PassesOwn.never)
   (ss1 (aaF (v_ 2))))),?_⟩
 have bh:=anG hh.1 hh.2
 have bm:=anG hm.1 hm.2
 refine⟨_,rfl,h,rfl,⟨hh.1,by omega⟩,fun p H1 s1 h1=>⟨p,rfl,⟨_,SqL.of h1⟩,abS (K:=K) (a:=p) (xs:=(apT h).map V.int) (fun i σ H2=>∃(v3:Option V),σ=[some (.int h),some (.int m),some (.int (orM (((apT h).take i).map fun z=>m*2^(60*z).toNat))),v3]/\Same H1 H2) ⟨_,rfl,Same.refl _⟩ (fun i σ H2 _ ⟨_,_,s2⟩=>SqL.of (s2 _ _ h1)) ?turn ?done⟩⟩
 case done=>
  rintro σ H2 ⟨v3,rfl,s2⟩
  rw[List.length_map,List.take_length]
  exact⟨_,rfl,q _ H2 rfl (s1.trans s2)⟩
 case turn=>
  rintro i x σ H2 hx ⟨v3,rfl,s2⟩
  rw[List.getElem?_map] at hx
  cases ez:(apT h)[i]? with
  |none=>rw[ez] at hx;cases hx
  |some z=>
   rw[ez] at hx
   obtain rfl:V.int z=x:=Option.some.inj hx
   have et:orM (((apT h).take (i+1)).map fun z=>m*2^(60*z).toNat)=Builtin.bitOr (orM (((apT h).take i).map fun z=>m*2^(60*z).toNat)) (m*2^(60*z).toNat):=by rw[List.take_succ,ez,List.map_append];exact afS _ _
   rw[et]
   have hz:=List.mem_of_getElem? ez
   rw[azF hh.1 hh.2] at hz
   obtain⟨n,hn,_,rfl⟩:=flt_mem.mp hz
   refine⟨_,rfl,_,rfl,_,rfl,_,_,rfl,rfl,.inl ⟨by decide,by decide⟩,_,_,rfl,rfl,⟨?_,?_,?_⟩,_,_,rfl,rfl,?_⟩
   ·omega
   ·omega
   ·omega
   ·exact⟨_,rfl,s2⟩
theorem aqD:Df P w K mg base "days_by" 5 ["days","weekdays","last","first"] (aqN K C_Numbers C_Last C_Near C_LastWork C_Weekdays C_Nth C_LastOne C_Mark):=by
 refine ZZ.F_days_by.dfs sc_days_by (fun vs H Q E h=>?_) (fun f cdv A outer s H vs Q E hr h=>?_)
 ·obtain⟨dv,wv,kd,kw,l,fi,rfl,hd,hw,hlf,q⟩:=h
  rfl
 obtain⟨dv,wv,kd,kw,l,fi,rfl,hd,hw,hlf,q⟩:=h
 refine⟨_,(ssC (sIf (tW (aoA (tCm aeA (v_ 0) eN) (ajO (tCm aeA (v_ 1) eN)))) (ss1 (aaF (eD (ad6 ZZ) hr (aC (v_ 2) aN)))) ssN)
   (ssC (aaI 4 eI sc_days_by.nd)
   (ssC (afK (iT (aa5 (aC (v_ 0) (aC (v_ 1) aN)))) (gN 5 sc_days_by.nd) (ss1 (sIf (tCm aEA (v_ 5) eN) (ss1 (aaI 4 (eOp oOr (v_ 4) (eD (aoE ZZ) hr (aC (v_ 5) (aC (v_ 2) (aC (v_ 3) aN))))) sc_days_by.nd)) ssN)) PassesOwn.never)
   (ss1 (aaF (v_ 4)))))),?_⟩
 have loop:kd.isNone=false∨kw.isNone=false->abJ kd kw l fi=orO kw (orO kd 0 l fi) l fi:=fun h=>by
  unfold abJ
  rw[if_neg]
  rintro⟨h1,h2⟩
  rcases h with h | h
  ·rw[h] at h1;cases h1
  ·rw[h] at h2;cases h2
 cases kd with
 |none=>
  have ed:dv=.non:=hd
  subst ed
  cases kw with
  |none=>
   have ew:wv=.non:=hw
   subst ew
   refine⟨_,rfl,rfl,_,rfl,?_⟩
   show if decide (V.non=V.non)=true then _ else _
   rw[decide_eq_true rfl]
   refine aa8 ⟨_,rfl,rfl,_,rfl,?_⟩
   show if decide (V.non=V.non)=true then _ else _
   rw[decide_eq_true rfl]
   exact aa8 ⟨_,rfl,l,rfl,hlf.1,q H (Same.refl _)⟩
  |some kw=>
   rw[loop (.inr rfl)] at q
   refine⟨_,rfl,rfl,_,rfl,?_⟩
   show if decide (V.non=V.non)=true then _ else _
   rw[decide_eq_true rfl]
   obtain⟨pw,qw,rfl,lw,fw,ow⟩:=hw
   refine aa8 ⟨_,rfl,rfl,_,rfl,aaU ?_⟩
   refine⟨_,rfl,_,rfl,(by show 2<=sizeLine;decide),fun tt ht=>⟨tt,rfl,⟨_,SqT.of aaA⟩,aiR (K:=K) (a:=tt) (xs:=[V.non,(V.ref pw)]) (fun i σ H2=>∃v5:Option V,σ=[some V.non,some (V.ref pw),some (.int l),some (.int fi),some (.int (match i with | 0=>0 | 1=>orO none 0 l fi | _=>orO (some kw) (orO none 0 l fi) l fi)),v5]/\Same (upd H tt (.tup [V.non,(V.ref pw)])) H2) ⟨_,rfl,Same.refl _⟩ (fun i σ H2 _ ⟨_,_,s2⟩=>SqT.of (s2 _ _ aaA)) ?turn ?done⟩⟩
   case done=>
    rintro σ H2 ⟨v5,rfl,s2⟩
    exact⟨_,rfl,q H2 ((aaB ht _).trans s2)⟩
   case turn=>
    rintro i x σ H2 hx ⟨v5,rfl,s2⟩
    have sA:=(aaB ht (.tup [V.non,(V.ref pw)])).trans s2
    match i,hx with
    |0,hx=>
     cases hx
     refine⟨_,rfl,rfl,_,rfl,?_⟩
     show if (!decide (V.non=V.non))=true then _ else _
     rw[decide_eq_true rfl]
     exact aaU ⟨_,rfl,s2⟩
    |1,hx=>
     cases hx
     exact⟨_,rfl,rfl,_,rfl,aa8 ⟨_,rfl,_,rfl,_,rfl,_,rfl,pw,qw,kw,l,fi,rfl,SqL.of (sA _ _ lw),fw.keepM sA.keep,ow,hlf,_,_,rfl,rfl,⟨_,rfl,s2⟩⟩⟩
    |i+2,hx=>cases hx
 |some kd=>
  rw[loop (.inl rfl)] at q
  obtain⟨pd,qd,rfl,ld,fd,od⟩:=hd
  refine⟨_,rfl,rfl,_,rfl,aaU ?_⟩
  cases kw with
  |none=>
   have ew:wv=.non:=hw
   subst ew
   refine⟨_,rfl,_,rfl,(by show 2<=sizeLine;decide),fun tt ht=>⟨tt,rfl,⟨_,SqT.of aaA⟩,aiR (K:=K) (a:=tt) (xs:=[(V.ref pd),V.non]) (fun i σ H2=>∃v5:Option V,σ=[some (V.ref pd),some V.non,some (.int l),some (.int fi),some (.int (match i with | 0=>0 | 1=>orO (some kd) 0 l fi | _=>orO none (orO (some kd) 0 l fi) l fi)),v5]/\Same (upd H tt (.tup [(V.ref pd),V.non])) H2) ⟨_,rfl,Same.refl _⟩ (fun i σ H2 _ ⟨_,_,s2⟩=>SqT.of (s2 _ _ aaA)) ?turn ?done⟩⟩
   case done=>
    rintro σ H2 ⟨v5,rfl,s2⟩
    exact⟨_,rfl,q H2 ((aaB ht _).trans s2)⟩
   case turn=>
    rintro i x σ H2 hx ⟨v5,rfl,s2⟩
    have sA:=(aaB ht (.tup [(V.ref pd),V.non])).trans s2
    match i,hx with
    |0,hx=>
     cases hx
     exact⟨_,rfl,rfl,_,rfl,aa8 ⟨_,rfl,_,rfl,_,rfl,_,rfl,pd,qd,kd,l,fi,rfl,SqL.of (sA _ _ ld),fd.keepM sA.keep,od,hlf,_,_,rfl,rfl,⟨_,rfl,s2⟩⟩⟩
    |1,hx=>
     cases hx
     refine⟨_,rfl,rfl,_,rfl,?_⟩
     show if (!decide (V.non=V.non))=true then _ else _
     rw[decide_eq_true rfl]
     exact aaU ⟨_,rfl,s2⟩
    |i+2,hx=>cases hx
  |some kw=>
   obtain⟨pw,qw,rfl,lw,fw,ow⟩:=hw
   refine⟨_,rfl,_,rfl,(by show 2<=sizeLine;decide),fun tt ht=>⟨tt,rfl,⟨_,SqT.of aaA⟩,aiR (K:=K) (a:=tt) (xs:=[(V.ref pd),(V.ref pw)]) (fun i σ H2=>∃v5:Option V,σ=[some (V.ref pd),some (V.ref pw),some (.int l),some (.int fi),some (.int (match i with | 0=>0 | 1=>orO (some kd) 0 l fi | _=>orO (some kw) (orO (some kd) 0 l fi) l fi)),v5]/\Same (upd H tt (.tup [(V.ref pd),(V.ref pw)])) H2) ⟨_,rfl,Same.refl _⟩ (fun i σ H2 _ ⟨_,_,s2⟩=>SqT.of (s2 _ _ aaA)) ?turn ?done⟩⟩
   case done=>
    rintro σ H2 ⟨v5,rfl,s2⟩
    exact⟨_,rfl,q H2 ((aaB ht _).trans s2)⟩
   case turn=>
    rintro i x σ H2 hx ⟨v5,rfl,s2⟩
    have sA:=(aaB ht (.tup [(V.ref pd),(V.ref pw)])).trans s2
    match i,hx with
    |0,hx=>
     cases hx
     exact⟨_,rfl,rfl,_,rfl,aa8 ⟨_,rfl,_,rfl,_,rfl,_,rfl,pd,qd,kd,l,fi,rfl,SqL.of (sA _ _ ld),fd.keepM sA.keep,od,hlf,_,_,rfl,rfl,⟨_,rfl,s2⟩⟩⟩
    |1,hx=>
     cases hx
     exact⟨_,rfl,rfl,_,rfl,aa8 ⟨_,rfl,_,rfl,_,rfl,_,rfl,pw,qw,kw,l,fi,rfl,SqL.of (sA _ _ lw),fw.keepM sA.keep,ow,hlf,_,_,rfl,rfl,⟨_,rfl,s2⟩⟩⟩
    |i+2,hx=>cases hx
theorem aiC:DfM P w K mg base C_Row "__init__" 4 ["self","fields"] (aiN K C_Row):=by
 refine ZZ.F_Row___init__.dfs aiH (fun vs H Q E h=>?_) (fun f cdv A outer s H vs Q E hr h=>?_)
 ·obtain⟨p,dx,fa,m0,m1,m3,dv,wv,rfl,hp,hf,h0,h1,q⟩:=h
  rfl
 obtain⟨p,dx,fa,m0,m1,m3,dv,wv,rfl,hp,hf,h0,h1,q⟩:=h
 refine⟨_,(ssC (sFl (v_ 0) (eIx xL (v_ 1) (eGl (v:=.int 0) ZZ.m_MINUTE ⟨_,rfl⟩)))
   (ssC (sFl (v_ 0) (eIx xL (v_ 1) (eGl (v:=.int 1) ZZ.m_HOUR ⟨_,rfl⟩)))
   (ssC (sFl (v_ 0) (eIx xL (v_ 1) (eGl (v:=.int 2) ZZ.m_DAY ⟨_,rfl⟩)))
   (ssC (sFl (v_ 0) (eIx xL (v_ 1) (eGl (v:=.int 3) ZZ.m_MONTH ⟨_,rfl⟩)))
   (ssC (sFl (v_ 0) (eIx xL (v_ 1) (eGl (v:=.int 4) ZZ.m_WEEKDAY ⟨_,rfl⟩)))
   (ss1 (sFl (v_ 0) (eD (aoG ZZ) hr (aC (eFl (v_ 0)) (aC (eFl (v_ 0)) aN)))))))))),?_⟩
 have hfp:fa≠p:=fun e=>by rw[e,hp] at hf;cases hf
 have g0:H fa=some (.lst [.int m0,.int m1,dv,.int m3,wv]):=hf
 have g1:(upd H p (.ins C_Row dx (aaO "minute_mask" (.int m0) []))) fa=some (.lst [.int m0,.int m1,dv,.int m3,wv]):=by rw[aaG hfp];exact g0
 have g2:(upd (upd H p (.ins C_Row dx (aaO "minute_mask" (.int m0) []))) p (.ins C_Row dx (aaO "hour_mask" (.int m1) (aaO "minute_mask" (.int m0) [])))) fa=some (.lst [.int m0,.int m1,dv,.int m3,wv]):=by rw[aaG hfp];exact g1
 have g3:(upd (upd (upd H p (.ins C_Row dx (aaO "minute_mask" (.int m0) []))) p (.ins C_Row dx (aaO "hour_mask" (.int m1) (aaO "minute_mask" (.int m0) [])))) p (.ins C_Row dx (aaO "day_marks" dv (aaO "hour_mask" (.int m1) (aaO "minute_mask" (.int m0) []))))) fa=some (.lst [.int m0,.int m1,dv,.int m3,wv]):=by rw[aaG hfp];exact g2
 have g4:(upd (upd (upd (upd H p (.ins C_Row dx (aaO "minute_mask" (.int m0) []))) p (.ins C_Row dx (aaO "hour_mask" (.int m1) (aaO "minute_mask" (.int m0) [])))) p (.ins C_Row dx (aaO "day_marks" dv (aaO "hour_mask" (.int m1) (aaO "minute_mask" (.int m0) []))))) p (.ins C_Row dx (aaO "month_mask" (.int m3) (aaO "day_marks" dv (aaO "hour_mask" (.int m1) (aaO "minute_mask" (.int m0) [])))))) fa=some (.lst [.int m0,.int m1,dv,.int m3,wv]):=by rw[aaG hfp];exact g3
 have g5:(upd (upd (upd (upd (upd H p (.ins C_Row dx (aaO "minute_mask" (.int m0) []))) p (.ins C_Row dx (aaO "hour_mask" (.int m1) (aaO "minute_mask" (.int m0) [])))) p (.ins C_Row dx (aaO "day_marks" dv (aaO "hour_mask" (.int m1) (aaO "minute_mask" (.int m0) []))))) p (.ins C_Row dx (aaO "month_mask" (.int m3) (aaO "day_marks" dv (aaO "hour_mask" (.int m1) (aaO "minute_mask" (.int m0) [])))))) p (.ins C_Row dx (aaO "weekday_marks" wv (aaO "month_mask" (.int m3) (aaO "day_marks" dv (aaO "hour_mask" (.int m1) (aaO "minute_mask" (.int m0) []))))))) fa=some (.lst [.int m0,.int m1,dv,.int m3,wv]):=by rw[aaG hfp];exact g4
 have l5:∀(f:Str) (v:V),(acR m0 m1 dv m3 wv 0).lookup f=some v->f≠"time_mask"->(aaO "weekday_marks" wv (aaO "month_mask" (.int m3) (aaO "day_marks" dv (aaO "hour_mask" (.int m1) (aaO "minute_mask" (.int m0) []))))).lookup f=some v:=fun f v h hne=>by
  unfold acR at h
  rw[aaD,if_neg hne] at h
  exact h
 refine⟨_,rfl,fa,_,_,_,rfl,rfl,SqL.of g0,rfl,_,rfl,p,C_Row,dx,_,rfl,hp,ZZ.c_Row.cl,ZZ.n_Row_minute_mask,(by show 0<1000;decide),_,rfl,fa,_,_,_,rfl,rfl,SqL.of g1,rfl,_,rfl,p,C_Row,dx,_,rfl,aaA,ZZ.c_Row.cl,ZZ.n_Row_hour_mask,(by show 1<1000;decide),_,rfl,fa,_,_,_,rfl,rfl,SqL.of g2,rfl,_,rfl,p,C_Row,dx,_,rfl,aaA,ZZ.c_Row.cl,ZZ.n_Row_day_marks,(by show 2<1000;decide),_,rfl,fa,_,_,_,rfl,rfl,SqL.of g3,rfl,_,rfl,p,C_Row,dx,_,rfl,aaA,ZZ.c_Row.cl,ZZ.n_Row_month_mask,(by show 3<1000;decide),_,rfl,fa,_,_,_,rfl,rfl,SqL.of g4,rfl,_,rfl,p,C_Row,dx,_,rfl,aaA,ZZ.c_Row.cl,ZZ.n_Row_weekday_marks,(by show 4<1000;decide),_,rfl,p,C_Row,dx,_,_,rfl,aaA,ZZ.c_Row.cl,ZZ.n_Row_hour_mask,l5 _ _ (ad2 ..) (by decide +kernel),_,rfl,p,C_Row,dx,_,_,rfl,aaA,ZZ.c_Row.cl,ZZ.n_Row_minute_mask,l5 _ _ (ac3 ..) (by decide +kernel),m1,m0,rfl,h1,h0,fun t HT ht sT=>?_⟩
 refine⟨_,rfl,p,C_Row,dx,_,rfl,sT _ _ aaA,ZZ.c_Row.cl,ZZ.n_Row_time_mask,(by show 5<1000;decide),q t _ ht aaA fun b o hb hne=>?_⟩
 rw[aaG hne]
 refine sT _ _ ?_
 rw[aaG hne,aaG hne,aaG hne,aaG hne,aaG hne]
 exact hb
theorem aj6:DfM P w K mg base C_Row "days_in" 6 ["self","kind"] (ajI K C_Row C_Numbers C_Last C_Near C_LastWork C_Weekdays C_Nth C_LastOne C_Mark):=by
 refine ZZ.F_Row_days_in.dfs sc_Row_days_in (fun vs H Q E h=>?_) (fun f cdv A outer s H vs Q E hr h=>?_)
 ·obtain⟨p,dx,m0,m1,m3,tm,k,dv,wv,kd,kw,rfl,hp,hk,hm,hd,hw,q⟩:=h
  rfl
 obtain⟨p,dx,m0,m1,m3,tm,k,dv,wv,kd,kw,rfl,hp,hk,hm,hd,hw,q⟩:=h
 refine⟨_,(ssC (aaI 2 (eD (apX ZZ) hr (aC (v_ 1) aN)) sc_Row_days_in.nd)
   (ssC (sIf (tNo (tVa (eD (agL ZZ) hr (aC (eFl (v_ 0)) (aC (eIx xT (v_ 2) eI) aN))))) (ss1 (aaF eI)) ssN)
   (ss1 (aaF (eD (aqD ZZ) hr (aC (eFl (v_ 0)) (aC (eFl (v_ 0)) (aC (eIx xT (v_ 2) eI) (aC (eIx xT (v_ 2) eI) aN))))))))),?_⟩
 have ml:=arX hk.1 hk.2
 refine⟨_,rfl,k,rfl,hk,fun t H1 s1 h1=>?_⟩
 rw[aoV] at h1
 have hp1:=s1 _ _ hp
 refine⟨_,rfl,p,C_Row,dx,_,_,rfl,hp1,ZZ.c_Row.cl,ZZ.n_Row_month_mask,adM ..,_,rfl,t,_,_,_,rfl,rfl,SqT.of h1,rfl,m3,mnA k,rfl,⟨hm,by omega⟩,_,rfl,?_⟩
 by_cases c:tb m3 (mnA k).toNat=true
 ·rw[if_pos c] at q
  rw[c]
  refine aaU ⟨_,rfl,p,C_Row,dx,_,_,rfl,hp1,ZZ.c_Row.cl,ZZ.n_Row_day_marks,akI ..,_,rfl,p,C_Row,dx,_,_,rfl,hp1,ZZ.c_Row.cl,ZZ.n_Row_weekday_marks,afG ..,_,rfl,t,_,_,_,rfl,rfl,SqT.of h1,rfl,_,rfl,t,_,_,_,rfl,rfl,SqT.of h1,rfl,dv,wv,kd,kw,lnA k,k%7,rfl,hd.keep s1,hw.keep s1,ml.2,fun H' s'=>q H' (s1.trans s')⟩
 ·have c':tb m3 (mnA k).toNat=false:=by simpa using c
  rw[if_neg c] at q
  rw[c']
  exact aa8 (q H1 s1)
theorem al9:Df P w K mg base "read_word" 9 ["word","place"] (amK K C_Numbers C_Last C_Near C_LastWork C_Weekdays C_Nth C_LastOne C_Mark):=by
 refine ZZ.F_read_word.dfs sc_read_word (fun vs H Q E h=>?_) (fun f cdv A outer s H vs Q E hr h=>?_)
 ·obtain⟨t,pl,rfl,h⟩:=h
  rfl
 obtain⟨t,pl,rfl,h⟩:=h
 refine⟨_,(ssC (sIf (tCm oEq (v_ 1) (eGl (v:=.int 2) ZZ.m_DAY ⟨_,rfl⟩)) (ss1 (aaF (eD (anV ZZ) hr (aC (v_ 0) aN)))) ssN)
   (ssC (sIf (tCm oEq (v_ 1) (eGl (v:=.int 4) ZZ.m_WEEKDAY ⟨_,rfl⟩)) (ss1 (aaF (eD (agH ZZ) hr (aC (v_ 0) aN)))) ssN)
   (ssC (aaI 2 (eDgK (eGl (v:=.ref a_BOUNDS) ZZ.m_BOUNDS rfl) (v_ 1)) sc_read_word.nd)
   (ss1 (aaF (eD (akN ZZ) hr (aC (v_ 0) (aC (eIx xT (v_ 2) eI) (aC (eIx xT (v_ 2) eI) aN))))))))),?_⟩
 rcases h with ⟨rfl,ko,hT,q⟩ | ⟨rfl,ko,hT,q⟩ | ⟨lo,hi,m,hp,hT,q⟩
 ·cases ko with
  |none=>
   have et:t=[42]:=hT.2.2
   exact⟨_,rfl,rfl,_,rfl,ifI (fun _=>⟨_,rfl,t,rfl,hT.2.1,(fun _ H' s'=>q _ H' s' rfl (fun p e=>nomatch e)),(fun c=>absurd et c)⟩) (fun c=>absurd rfl c)⟩
  |some ks=>
   exact⟨_,rfl,rfl,_,rfl,ifI (fun _=>⟨_,rfl,t,rfl,hT.2.1,(fun e=>absurd e hT.2.2.1),(fun _ m qs H' hm s' hl hF=>q _ H' s' ⟨m,qs,rfl,hl,by rw[←hT.2.2.2.2];exact hF,fun k hk=>(ajU hT.2.2.2.1 k hk).2.2⟩ (fun p e=>by cases e;exact hm))⟩) (fun c=>absurd rfl c)⟩
 ·cases ko with
  |none=>
   have et:t=[42]:=hT.2.2
   exact⟨_,rfl,rfl,_,rfl,ifI (fun c=>absurd c (by decide)) (fun _=>⟨_,rfl,rfl,_,rfl,ifI (fun _=>⟨_,rfl,t,rfl,hT.2.1,(fun _ H' s'=>q _ H' s' rfl (fun p e=>nomatch e)),(fun c=>absurd et c)⟩) (fun c=>absurd rfl c)⟩)⟩
  |some ks=>
   exact⟨_,rfl,rfl,_,rfl,ifI (fun c=>absurd c (by decide)) (fun _=>⟨_,rfl,rfl,_,rfl,ifI (fun _=>⟨_,rfl,t,rfl,hT.2.1,(fun e=>absurd e hT.2.2.1),(fun _ m qs H' hm s' hl hF=>q _ H' s' ⟨m,qs,rfl,hl,by rw[←hT.2.2.2.2];exact hF,fun k hk=>(ajU hT.2.2.2.1 k hk).2.2⟩ (fun p e=>by cases e;exact hm))⟩) (fun c=>absurd rfl c)⟩)⟩
 ·have hl:=hT.len
  have hne:pl≠2/\pl≠4:=by omega
  rcases hp with ⟨rfl,rfl,rfl⟩ | ⟨rfl,rfl,rfl⟩ | ⟨rfl,rfl,rfl⟩
  ·exact⟨_,rfl,rfl,_,rfl,ifI (fun c=>absurd c (by decide)) (fun _=>⟨_,rfl,rfl,_,rfl,ifI (fun c=>absurd c (by decide)) (fun _=>⟨_,rfl,a_BOUNDS,_,_,_,rfl,ZZ.q_BOUNDS,rfl,rfl,_,rfl,_,rfl,a_BOUNDS_0,_,_,_,rfl,rfl,ZZ.q_BOUNDS_0 _,rfl,_,rfl,a_BOUNDS_0,_,_,_,rfl,rfl,ZZ.q_BOUNDS_0 _,rfl,t,_,_,rfl,hl,⟨by decide,by decide,by decide⟩,hT.ok,fun H' s'=>by rw[hT.is];exact q H' s'⟩)⟩)⟩
  ·exact⟨_,rfl,rfl,_,rfl,ifI (fun c=>absurd c (by decide)) (fun _=>⟨_,rfl,rfl,_,rfl,ifI (fun c=>absurd c (by decide)) (fun _=>⟨_,rfl,a_BOUNDS,_,_,_,rfl,ZZ.q_BOUNDS,rfl,rfl,_,rfl,_,rfl,a_BOUNDS_1,_,_,_,rfl,rfl,ZZ.q_BOUNDS_1 _,rfl,_,rfl,a_BOUNDS_1,_,_,_,rfl,rfl,ZZ.q_BOUNDS_1 _,rfl,t,_,_,rfl,hl,⟨by decide,by decide,by decide⟩,hT.ok,fun H' s'=>by rw[hT.is];exact q H' s'⟩)⟩)⟩
  ·exact⟨_,rfl,rfl,_,rfl,ifI (fun c=>absurd c (by decide)) (fun _=>⟨_,rfl,rfl,_,rfl,ifI (fun c=>absurd c (by decide)) (fun _=>⟨_,rfl,a_BOUNDS,_,_,_,rfl,ZZ.q_BOUNDS,rfl,rfl,_,rfl,_,rfl,a_BOUNDS_3,_,_,_,rfl,rfl,ZZ.q_BOUNDS_3 _,rfl,_,rfl,a_BOUNDS_3,_,_,_,rfl,rfl,ZZ.q_BOUNDS_3 _,rfl,t,_,_,rfl,hl,⟨by decide,by decide,by decide⟩,hT.ok,fun H' s'=>by rw[hT.is];exact q H' s'⟩)⟩)⟩
theorem ap1:Df P w K mg base "read_at" 10 ["word","place"] (ap0 K C_Numbers C_Last C_Near C_LastWork C_Weekdays C_Nth C_LastOne C_Mark):=by
 refine ZZ.F_read_at.dfs aqE (fun vs H Q E h=>?_) (fun f cdv A outer s H vs Q E hr h=>?_)
 ·obtain⟨t,pl,rfl,h⟩:=h
  rfl
 obtain⟨t,pl,rfl,h⟩:=h
 refine⟨_,(ss1 (aOP (ss1 (aaF (eD (al9 ZZ) hr (aC (v_ 0) (aC (v_ 1) aN))))))),?_⟩
 exact⟨_,rfl,_,rfl,t,pl,rfl,h⟩
theorem ad4:Df P w K mg base "read_row" 11 ["text"] (apI K C_Numbers C_Last C_Near C_LastWork C_Weekdays C_Nth C_LastOne C_Mark C_Row):=by
 refine ZZ.F_read_row.dfs sc_read_row (fun vs H Q E h=>?_) (fun f cdv A outer s H vs Q E hr h=>?_)
 ·obtain⟨w0,w1,w2,w3,w4,m0,m1,m3,kd,kw,rfl,f0,f1,f3,d2,d4,hb,q⟩:=h
  rfl
 obtain⟨w0,w1,w2,w3,w4,m0,m1,m3,kd,kw,rfl,f0,f1,f3,d2,d4,hb,q⟩:=h
 refine⟨_,(ssC (sIf (tW (wOr (tNo (tVa (eCB cIs ZZ.z_isinstance PyProof.Rows.boot_isinstance (aC (v_ 0) (aC (eTy ZZ.z_str PyProof.Rows.boot_str) aN))))) (akT (tCm oGt (eCB at5 ZZ.z_len PySem.boot_len (aC (v_ 0) aN)) (eGl (v:=.int 1600) ZZ.m_MOST_ROW_SIGNS ⟨_,rfl⟩))))) (ss1 amD) ssN)
   (ssC (aaI 1 (asW (v_ 0) (eSx [32])) sc_read_row.nd)
   (ssC (sIf (tW (wOr (tCm oNe (eCB amJ ZZ.z_len PySem.boot_len (aC (v_ 1) aN)) (eGl (v:=.int 5) ZZ.m_NO_PLACE ⟨_,rfl⟩)) (akT (tCm oIn (eSx []) (v_ 1))))) (ss1 amD) ssN)
   (ss1 (aaF (eMk ZZ.c_Row (aiC ZZ) hr (aC (aEP ["place","word"] [] [] (iE ZZ.z_enumerate (v_ 1)) (fun _ _ _ _ _ _=>gTuc (K:=K) (n:=2) (gsC (gN 0 (show ((["place","word"]:List Str)++([]:List Str)).Nodup by decide +kernel)) (gsC (gN 1 (show ((["place","word"]:List Str)++([]:List Str)).Nodup by decide +kernel)) gsN))) (fun _ _ _ _ _ _=>fsN) (fun _ _ _ _ _ _=>(eD (ap1 ZZ) hr (aC (v_ 1) (aC (v_ 0) aN))))) aN))))))),?_⟩
 have n32:∀w∈[w0,w1,w2,w3,w4],32∉w:=fun w hw=>by
  simp only[List.mem_cons,List.not_mem_nil,or_false] at hw
  rcases hw with rfl | rfl | rfl | rfl | rfl
  ·exact f0.sp
  ·exact f1.sp
  ·exact d2.1.1
  ·exact f3.sp
  ·exact d4.1.1
 have nn:∀w∈[w0,w1,w2,w3,w4],w≠[]:=fun w hw=>by
  simp only[List.mem_cons,List.not_mem_nil,or_false] at hw
  rcases hw with rfl | rfl | rfl | rfl | rfl
  ·exact f0.ne
  ·exact f1.ne
  ·exact d2.1.2
  ·exact f3.ne
  ·exact d4.1.2
 have hs:=adV 32 [w0,w1,w2,w3,w4] (List.cons_ne_nil _ _) n32
 obtain⟨L,eL⟩:∃L,L=aaT 32 [w0,w1,w2,w3,w4]:=⟨_,rfl⟩
 have hl:L.length<=1600:=by
  have:=f0.len
  have:=f1.len
  have:=f3.len
  have:=d2.2.1.len
  have:=d4.2.1.len
  rw[eL]
  show (w0++32::(w1++32::(w2++32::(w3++32::w4)))).length<=1600
  simp only[List.length_append,List.length_cons]
  omega
 rw[←eL] at hs ⊢
 refine⟨_,rfl,_,.str,.str,rfl,(by decide),rfl,_,rfl,ifF rfl ⟨_,rfl,L,rfl,(by rw[sizeLine_eq];omega),_,_,rfl,rfl,_,rfl,?_⟩⟩
 rw[decide_eq_false (show ¬(1600:Int)<((L.length:Nat):Int) by omega)]
 refine aaU ⟨_,rfl,rfl,L,32,rfl,rfl,(by rw[sizeLine_eq];omega),fun ps hps=>?_⟩
 rw[hs]
 have s0:=aaB hps (.lst ([w0,w1,w2,w3,w4].map fun q=>V.str (Tx q)))
 refine⟨_,rfl,ps,_,rfl,.inl (SqL.of aaA),rfl,_,rfl,ifNe rfl ⟨_,rfl,ps,_,rfl,.inl (SqL.of aaA),rfl,rfl,_,rfl,?_⟩⟩
 show if inV (.str (Tx [])) ([w0,w1,w2,w3,w4].map fun q=>V.str (Tx q))=true then _ else _
 rw[ay3 nn]
 refine aaU ⟨_,rfl,ps,rfl,⟨_,SqL.of aaA⟩,aqB (xs:=[w0,w1,w2,w3,w4].map fun q=>V.str (Tx q)) (fun D i l H=>i=0/\l=[]∨(∃l',H D=some (.lst l'))/\RR (⟨C_Numbers,C_Last,C_Near,C_LastWork,C_Weekdays,C_Nth,C_LastOne,C_Mark⟩:Cs) m0 m1 m3 (gO false kd) (gO true kw) D i l H) ?u1 ?u2 (by show 5<=sizeLine;decide) (fun D _=>.inl ⟨rfl,rfl⟩) (SqL.of aaA) ?st ?dn⟩
 case u1=>
  rintro D i l HX l' (h | ⟨hl,h⟩)
  ·exact .inl h
  ·exact .inr ⟨⟨_,aaA⟩,h.upd hl⟩
 case u2=>
  rintro D i l HX HY s (h | ⟨⟨l',hl⟩,h⟩)
  ·exact .inl h
  ·exact .inr ⟨⟨l',s _ _ hl⟩,h.keep s⟩
 case st=>
  intro i x l D H2 E' F' hx hR hD s2 hz hE hF
  have hR':RR (⟨C_Numbers,C_Last,C_Near,C_LastWork,C_Weekdays,C_Nth,C_LastOne,C_Mark⟩:Cs) m0 m1 m3 (gO false kd) (gO true kw) D i l H2:=by
   rcases hR with ⟨rfl,rfl⟩ | h
   ·rfl
   ·exact h.2
  have up:∀{H5:Hp},Same H2 H5->∃l',H5 D=some (.lst l'):=fun s=>⟨_,s _ _ hz⟩
  have fr:∀{p:Addr},H2 p=none->p≠D:=fun h e=>by rw[e,hz] at h;cases h
  match i,hx,hR' with
  |0,hx,e=>cases hx;exact⟨_,rfl,_,rfl,w0,0,rfl,.inr (.inr ⟨0,59,m0,.inl ⟨rfl,rfl,rfl⟩,f0,fun H' s'=>hE _ _ s' (.inr ⟨up s',by rw[e];rfl⟩)⟩)⟩
  |1,hx,e=>cases hx;exact⟨_,rfl,_,rfl,w1,1,rfl,.inr (.inr ⟨0,23,m1,.inr (.inl ⟨rfl,rfl,rfl⟩),f1,fun H' s'=>hE _ _ s' (.inr ⟨up s',by rw[e];rfl⟩)⟩)⟩
  |2,hx,e=>cases hx;exact⟨_,rfl,_,rfl,w2,2,rfl,.inl ⟨rfl,kd,d2,fun v H' s' hv hn=>hE _ _ s' (.inr ⟨up s',v,by rw[e];rfl,hv,fun p ep=>fr (hn p ep)⟩)⟩⟩
  |3,hx,⟨dv,e,hd⟩=>cases hx;exact⟨_,rfl,_,rfl,w3,3,rfl,.inr (.inr ⟨1,12,m3,.inr (.inr ⟨rfl,rfl,rfl⟩),f3,fun H' s'=>hE _ _ s' (.inr ⟨up s',dv,by rw[e];rfl,hd.keep s'⟩)⟩)⟩
  |4,hx,⟨dv,e,hd⟩=>cases hx;exact⟨_,rfl,_,rfl,w4,4,rfl,.inr (.inl ⟨rfl,kw,d4,fun v H' s' hv hn=>hE _ _ s' (.inr ⟨up s',dv,v,by rw[e];rfl,hd.keep s',hv,fun p ep=>fr (hn p ep)⟩)⟩)⟩
  |i+5,hx,_=>cases hx
 case dn=>
  intro D H2 l hR hD s2 hz
  rcases hR with ⟨e,_⟩ | ⟨_,hR⟩
  ·cases e
  obtain⟨dv,wv,rfl,hd,hw⟩:=hR
  intro x dx nx ndx nex
  have n1:=ajZ (a:=.own x) (b:=.ins C_Row dx []) nx ndx
  refine⟨x,dx,D,m0,m1,m3,dv,wv,rfl,aaA,n1 _ _ hz,⟨f0.nn,hb.1⟩,⟨f1.nn,hb.2⟩,fun tm H' htm hx' hs'=>⟨rfl,?_⟩⟩
  have sX:Same H2 H':=fun b o hb'=>hs' b o (n1 _ _ hb') (fun e=>by rw[e,nx] at hb';cases hb')
  exact q x dx dv wv tm H' htm (s0.trans (s2.trans sX)) hx' (hd.1.keep sX) (hw.1.keep sX)
theorem abX:Df P w K mg base "_law_cell_at" 1 ["_law_script","_law_k"] (ah9 K):=by
 refine ZZ.F__law_cell_at.dfs aiI (fun vs H Q E h=>?_) (fun f cdv A outer s H vs Q E hr h=>?_)
 ·obtain⟨a,k,rfl,⟨ns,hS⟩,⟨h0,h9⟩,q⟩:=h
  rfl
 obtain⟨a,k,rfl,⟨ns,hS⟩,⟨h0,h9⟩,q⟩:=h
 refine⟨_,(ssC (sIf (tCm oLt (v_ 1) (eCB amJ ZZ.z_len PySem.boot_len (aC (v_ 0) aN))) (ss1 (aaF (eIx xL (v_ 0) (v_ 1)))) ssN)
   (ss1 (aaF (eOp aaW (eOp acS (eOp atA (eOp aaL (v_ 1) eI) eI) eI) eI)))),?_⟩
 refine⟨_,rfl,_,rfl,a,_,rfl,.inl hS,_,_,rfl,rfl,_,rfl,?_⟩
 refine ifD (fun c=>?_) (fun c=>?_)
 ·rw[List.length_map] at c
  have hk:k.toNat<ns.length:=by omega
  have ek:k=((k.toNat:Nat):Int):=by omega
  have e:atI (ns.map V.int) k=some (.int ns[k.toNat]):=by
   have z:atI (ns.map V.int) ((k.toNat:Nat):Int)=some (.int ns[k.toNat]):=af7 (by rw[List.getElem?_map,List.getElem?_eq_getElem hk];rfl)
   rw[←ek] at z
   exact z
  refine⟨_,rfl,_,rfl,a,_,_,_,rfl,rfl,hS,e,?_⟩
  exact q _
 ·refine⟨_,rfl,_,_,rfl,rfl,_,_,rfl,rfl,⟨by decide,by decide,(by show (k+2).natAbs<2^64;omega)⟩,_,_,rfl,rfl,.inr ⟨by decide,by decide⟩,_,_,rfl,rfl,(by show (0:Int)<15485863;decide),?_⟩
  exact q _
theorem am6:Df P w K mg base "_law_stir" 1 ["_law_number"] (am0 K):=by
 refine ZZ.F__law_stir.dfs sc__law_stir (fun vs H Q E h=>?_) (fun f cdv A outer s H vs Q E hr h=>?_)
 ·obtain⟨n,rfl,q⟩:=h
  rfl
 obtain⟨n,rfl,q⟩:=h
 refine⟨_,(ssC (aaI 1 (eOp aaW (eOp acS (eOp aaL (eOp aaW (v_ 0) (eOp atA eI eI)) eI) eI) eI) sc__law_stir.nd)
   (ssC (aaI 2 (eOp aaW (eOp acS (v_ 1) (eOp aaL (eOp aaW (v_ 1) eI) eI)) eI) sc__law_stir.nd)
   (ss1 (aaF (eOp aaW (eOp acS (v_ 2) (eOp aaL (eOp aaW (v_ 2) eI) eI)) eI))))),?_⟩
 refine⟨_,rfl,_,_,rfl,rfl,⟨by decide,by decide,by decide⟩,_,_,rfl,rfl,(by rw[aNJ];show (0:Int)<_;decide),_,_,rfl,rfl,_,_,rfl,rfl,.inr ⟨by decide,by decide⟩,_,_,rfl,rfl,(by show (0:Int)<4294967291;decide),?_⟩
 refine⟨_,rfl,_,rfl,_,_,rfl,rfl,(by show (0:Int)<65521;decide),_,_,rfl,rfl,_,_,rfl,rfl,aOS (by decide) (by decide),_,_,rfl,rfl,(by show (0:Int)<999999937;decide),?_⟩
 refine⟨_,rfl,_,rfl,_,_,rfl,rfl,(by show (0:Int)<32749;decide),_,_,rfl,rfl,_,_,rfl,rfl,aOS (by decide) (by decide),_,_,rfl,rfl,(by show (0:Int)<2147483629;decide),?_⟩
 exact q _ (Int.emod_nonneg _ (by decide)) (Int.emod_lt_of_pos _ (by decide))
theorem acH:Df P w K mg base "_law_digits" 2 ["_law_cell","_law_sizes","_law_mixed"] (ai1 K):=by
 refine ZZ.F__law_digits.dfs sc__law_digits (fun vs H Q E h=>?_) (fun f cdv A outer s H vs Q E hr h=>?_)
 ·obtain⟨c,a,b,ss,rfl,hS,hz,hl,q⟩:=h
  rfl
 obtain⟨c,a,b,ss,rfl,hS,hz,hl,q⟩:=h
 refine⟨_,(ssC (aaI 3 (abW aN) sc__law_digits.nd)
   (ssC (aaI 2 (eOr (v_ 2) (ajK (adF oLt (eCB aBV ZZ.z_abs PyProof.Rows.boot_abs (aC (v_ 0) aN)) (eOp atA eI eI)))) sc__law_digits.nd)
   (ssC (afK (iL (v_ 1)) (gN 4 sc__law_digits.nd) (ss1 (sIf (tVa (v_ 2)) (ssC (aaI 0 (eD (am6 ZZ) hr (aC (v_ 0) aN)) sc__law_digits.nd)
   (ss1 (atZ (atK (v_ 3) (eOp aaW (eOp afQ (v_ 0) eI) (v_ 4)))))) (ssC (atZ (atK (v_ 3) (eOp aaW (v_ 0) (v_ 4))))
   (ss1 (aaI 0 (eOp afQ (v_ 0) (v_ 4)) sc__law_digits.nd))))) PassesOwn.never)
   (ss1 (aaF (v_ 3)))))),?_⟩
 refine⟨(by show 0<=sizeLine;decide),fun fl hfl=>?_⟩
 refine⟨_,rfl,_,rfl,aLC (fun _=>?_) (fun _=>⟨_,rfl,_,rfl,_,_,rfl,rfl,⟨by decide,by decide,by decide⟩,_,_,rfl,rfl,?_⟩)⟩
 all_goals
  refine⟨_,rfl,a,rfl,⟨_,(aaB hfl _).seq hS⟩,abS (K:=K) (a:=a) (xs:=ss.map V.int) (fun i σ H2=>∃(c':Int) (b':Bool) (u:Option V) (ds:List Int),σ=[some (.int c'),some (.ref a),some (.bl b'),some (.ref fl),u]/\Same H H2/\H2 fl=some (.lst (ds.map V.int))/\Digs ds (ss.take i)) ⟨_,_,_,[],rfl,aaB hfl _,aaA,.nil⟩ (fun i σ H2 _ ⟨_,_,_,_,_,s2,_⟩=>s2.seq hS) ?_ ?_⟩
  ·rintro i x σ H2 hx ⟨c',b',u,ds,rfl,s2,hf,hd⟩
   rw[List.getElem?_map] at hx
   cases e:ss[i]? with
   |none=>rw[e] at hx;cases hx
   |some z=>
    rw[e] at hx
    obtain rfl:V.int z=x:=Option.some.inj hx
    have hzz:=hz z (List.mem_of_getElem? e)
    have et:ss.take (i+1)=ss.take i++[z]:=by rw[List.take_succ,e];rfl
    have hdl:(ds.map V.int).length<sizeLine:=by
     have q1:=hd.len
     rw[List.length_take] at q1
     rw[List.length_map,sizeLine_eq]
     omega
    have app:∀d:Int,(ds.map V.int)++[V.int d]=(ds++[d]).map V.int:=fun d=>by rw[List.map_append];rfl
    refine⟨_,rfl,_,rfl,?_⟩
    cases b' with
    |true=>
     refine aa8 ⟨_,rfl,_,rfl,fun r hr0 hr1=>?_⟩
     refine⟨_,rfl,.inl ⟨rfl,_,SqL.of hf⟩,_,rfl,_,_,rfl,rfl,⟨by decide,by decide⟩,_,rfl,_,_,rfl,rfl,hzz.1,fl,_,_,rfl,rfl,hf,hdl,?_⟩
     refine⟨_,_,_,ds++[r / 8%z],rfl,acE hfl s2,by rw[app];exact aaA,?_⟩
     rw[et]
     exact hd.snoc (Int.emod_nonneg _ (Int.ne_of_gt hzz.1)) (Int.emod_lt_of_pos _ hzz.1)
    |false=>
     refine aaU ⟨_,rfl,.inl ⟨rfl,_,SqL.of hf⟩,_,rfl,_,rfl,_,_,rfl,rfl,hzz.1,fl,_,_,rfl,rfl,hf,hdl,?_⟩
     refine⟨_,rfl,_,rfl,_,_,rfl,rfl,hzz,?_⟩
     refine⟨_,_,_,ds++[c'%z],rfl,acE hfl s2,by rw[app];exact aaA,?_⟩
     rw[et]
     exact hd.snoc (Int.emod_nonneg _ (Int.ne_of_gt hzz.1)) (Int.emod_lt_of_pos _ hzz.1)
  ·rintro σ H2 ⟨c',b',u,ds,rfl,s2,hf,hd⟩
   rw[List.length_map,List.take_length] at hd
   exact⟨_,rfl,q ds fl H2 s2 hf hd⟩
theorem adB:Df P w K mg base "_law_item" 1 ["_law_way","_law_first_here","_law_last_here","_law_step","_law_bounds"] (amN K):=by
 refine ZZ.F__law_item.dfs sc__law_item (fun vs H Q E h=>?_) (fun f cdv A outer s H vs Q E hr h=>?_)
 ·obtain⟨p,way,fi,la,st,lo,hi,rfl,hp,hb,q⟩:=h
  rfl
 obtain⟨p,way,fi,la,st,lo,hi,rfl,hp,hb,q⟩:=h
 refine⟨_,(ssC (af4 (v_ 4) (gTu (gsC (gN 5 sc__law_item.nd) (gsC (gN 6 sc__law_item.nd) gsN))))
   (ssC (aaI 1 (eOp aaL (v_ 5) (eOp aaW (v_ 1) (eOp aaL (eOp aa9 (v_ 6) (v_ 5)) eI))) sc__law_item.nd)
   (ssC (aaI 2 (eOp aaL (v_ 1) (eOp aaW (v_ 2) (eOp aaL (eOp aa9 (v_ 6) (v_ 1)) eI))) sc__law_item.nd)
   (ssC (sIf (tCm oEq (v_ 0) eI) (ss1 (aaF (aa5 (aC (eCT acP ZZ.z_str PyProof.Rows.boot_str (aC (v_ 1) aN)) (aC (abW (aC (v_ 1) aN)) aN))))) ssN)
   (ssC (sIf (tCm oEq (v_ 0) eI) (ss1 (aaF (aa5 (aC (eOp acL (eOp acL (eCT acP ZZ.z_str PyProof.Rows.boot_str (aC (v_ 1) aN)) (eSx [45])) (eCT acP ZZ.z_str PyProof.Rows.boot_str (aC (v_ 2) aN))) (aC (eCT cLR ZZ.z_list PyProof.Rows.boot_list (aC (eCT aPA ZZ.z_range boot_range (aC (v_ 1) (aC (eOp aaL (v_ 2) eI) aN))) aN)) aN))))) ssN)
   (ssC (aaI 3 (eOp aaL eI (eOp aaW (v_ 3) (eIx xL (abW (aC eI (aC eI aN))) (eOp aaW (v_ 0) eI)))) sc__law_item.nd)
   (ssC (sIf (tCm oLt (v_ 0) eI) (ss1 (aaF (aa5 (aC (eOp acL (eOp acL (eCT acP ZZ.z_str PyProof.Rows.boot_str (aC (v_ 1) aN)) (eSx [47])) (eCT acP ZZ.z_str PyProof.Rows.boot_str (aC (v_ 3) aN))) (aC (eCT cLR ZZ.z_list PyProof.Rows.boot_list (aC (eCT aBD ZZ.z_range boot_range (aC (v_ 1) (aC (eOp aaL (v_ 6) eI) (aC (v_ 3) aN)))) aN)) aN))))) ssN)
   (ssC (sIf (tCm oLt (v_ 0) eI) (ss1 (aaF (aa5 (aC (eOp acL (eOp acL (eOp acL (eOp acL (eCT acP ZZ.z_str PyProof.Rows.boot_str (aC (v_ 1) aN)) (eSx [45])) (eCT acP ZZ.z_str PyProof.Rows.boot_str (aC (v_ 2) aN))) (eSx [47])) (eCT acP ZZ.z_str PyProof.Rows.boot_str (aC (v_ 3) aN))) (aC (eCT cLR ZZ.z_list PyProof.Rows.boot_list (aC (eCT aBD ZZ.z_range boot_range (aC (v_ 1) (aC (eOp aaL (v_ 2) eI) (aC (v_ 3) aN)))) aN)) aN))))) ssN)
   (ss1 (aaF (aa5 (aC (eOp acL (eSx [42,47]) (eCT acP ZZ.z_str PyProof.Rows.boot_str (aC (v_ 3) aN))) (aC (eCT cLR ZZ.z_list PyProof.Rows.boot_list (aC (eCT aBD ZZ.z_range boot_range (aC (v_ 5) (aC (eOp aaL (v_ 6) eI) (aC (v_ 3) aN)))) aN)) aN))))))))))))),?_⟩
 have p1:0<hi-lo+1:=by omega
 have m0:=Int.emod_nonneg fi (show (hi-lo+1)≠0 by omega)
 have m1:=Int.emod_lt_of_pos fi p1
 refine⟨_,rfl,p,_,rfl,hp,rfl,_,_,rfl,_,_,rfl,rfl,?_⟩
 refine⟨_,rfl,_,rfl,_,rfl,_,rfl,_,_,rfl,rfl,_,_,rfl,rfl,_,_,rfl,rfl,p1,_,_,rfl,rfl,?_⟩
 obtain⟨A,eA⟩:∃A,A=lo+fi%(hi-lo+1):=⟨_,rfl⟩
 have a1:lo<=A/\A<=hi:=by omega
 show ab3 1 (V.int (lo+fi%(hi-lo+1))) _ _ _
 rw[←eA]
 have p2:0<hi-A+1:=by omega
 have n0:=Int.emod_nonneg la (show (hi-A+1)≠0 by omega)
 have n1:=Int.emod_lt_of_pos la p2
 refine⟨_,rfl,_,rfl,_,rfl,_,rfl,_,_,rfl,rfl,_,_,rfl,rfl,_,_,rfl,rfl,p2,_,_,rfl,rfl,?_⟩
 obtain⟨B,eB⟩:∃B,B=A+la%(hi-A+1):=⟨_,rfl⟩
 have b1:A<=B/\B<=hi:=by omega
 show ab3 2 (V.int (A+la%(hi-A+1))) _ _ _
 rw[←eB]
 have sm:∀z:Int,0<=z->z<=99->z.toNat<10^500/\[V.int z]=[V.int (z.toNat:Nat)]:=fun z h1 h2=>⟨Nat.lt_of_lt_of_le (show z.toNat<100 by omega) (by decide +kernel),by rw[Int.toNat_of_nonneg h1]⟩
 have nl:∀z:Int,0<=z->z<=99->(num z.toNat).length<=2:=fun z h1 h2=>(ag2 _ (by omega)).2.2.2
 have z4':∀{n m:Nat},n<=20->m<=20->n+m<=sizeLine:=fun {n m} h1 h2=>by rw[sizeLine_eq];omega
 have hA0:0<=A:=Int.le_trans hb.1 a1.1
 have hA31:A<=63:=Int.le_trans a1.2 hb.2.2
 have hB0:0<=B:=Int.le_trans hA0 b1.1
 have hB31:B<=63:=Int.le_trans b1.2 hb.2.2
 have hl31:lo<=63:=Int.le_trans hb.2.1 hb.2.2
 have hh0:0<=hi:=Int.le_trans hb.1 hb.2.1
 have up:∀{z:Int},z<=63->z<=1000/\z<=99:=fun h=>⟨Int.le_trans h (by decide),Int.le_trans h (by decide)⟩
 have dn:∀{z:Int},0<=z-> -1<=z:=fun h=>Int.le_trans (by decide) h
 have tn:∀{n:Nat},n<=1001->n<=100000:=fun h=>Nat.le_trans h (by decide)
 have t2:∀{n:Nat},n<=2->n<=20/\n+1<=20:=fun h=>⟨Nat.le_trans h (by decide),Nat.le_trans (Nat.add_le_add_right h 1) (by decide)⟩
 have t5:∀{n m:Nat},n<=2->m<=2->n+1+m<=20/\n+1+m+1<=20:=fun h h'=>⟨Nat.le_trans (Nat.add_le_add (Nat.add_le_add_right h 1) h') (by decide),Nat.le_trans (Nat.add_le_add_right (Nat.add_le_add (Nat.add_le_add_right h 1) h') 1) (by decide)⟩
 clear m0 m1 n0 n1 p1 p2 eA eB
 have qA:=sm A hA0 (up hA31).2
 have qB:=sm B hB0 (up hB31).2
 have lA:=nl A hA0 (up hA31).2
 have lB:=nl B hB0 (up hB31).2
 refine⟨_,rfl,rfl,_,rfl,ifI (fun c=>?g0) (fun c0=>⟨_,rfl,rfl,_,rfl,ifI (fun c=>?g1) (fun c1=>?_)⟩)⟩
 case g0=>
  refine⟨_,rfl,A.toNat,qA.2,qA.1,_,rfl,(by show 1<=sizeLine;decide),fun u hu=>⟨(by show 2<=sizeLine;decide),fun t ht=>?_⟩⟩
  exact q t u _ [A] _ ((aaB hu _).trans (aaB ht _)) aaA ((aaB ht _) _ _ aaA) (i1 hb.1 a1.1 a1.2 hb.2.2) (apG (n42 (by omega)))
 case g1=>
  have n2:=adA (a:=A) (b:=B) (s:=1) hA0 (up hB31).1 (by decide)
  refine⟨_,rfl,A.toNat,qA.2,qA.1,_,_,rfl,rfl,z4' (t2 lA).1 (by decide),_,rfl,B.toNat,qB.2,qB.1,_,_,rfl,rfl,z4' (by rw[List.length_append];exact (t2 lA).2) (t2 lB).1,_,rfl,_,rfl,_,_,rfl,rfl,_,_,rfl,fun r hr=>⟨r,A,B+1,1,(Builtin.Range.rangeSize A (B+1) 1).toNat,rfl,aaA,acX hA0 (up hA31).1 (dn hB0) (up hB31).1 (by decide) (by decide),n2.2,tn n2.1,fun u hu=>⟨(by show 2<=sizeLine;decide),fun t ht=>?_⟩⟩⟩
  exact q t u _ (acI A B 1) _ ((aaB hr _).trans ((aaB hu _).trans (aaB ht _))) aaA ((aaB ht _) _ _ (by rw[ab4,List.map_map];exact aaA)) (by rw[List.append_assoc];exact i2 hb.1 a1.1 b1.1 b1.2 hb.2.2) (apG (c42 (c42 (n42 (by omega)) (by decide)) (n42 (by omega))))
 have w0:=Int.emod_nonneg way (show (2:Int)≠0 by decide)
 have w1:=Int.emod_lt_of_pos way (show (0:Int)<2 by decide)
 obtain⟨v,hv,hor⟩:=at2 (i:=way%2) (x:=V.int 99) (y:=V.int 5) w0 w1
 obtain⟨k,ek,k0,k1⟩:∃k:Int,v=V.int k/\0<k/\k<=99:=by
  rcases hor with rfl | rfl
  ·exact⟨99,rfl,by decide,by decide⟩
  ·exact⟨5,rfl,by decide,by decide⟩
 subst ek
 refine⟨_,rfl,(by show 2<=sizeLine;decide),fun l1 hl1=>⟨_,rfl,_,_,rfl,rfl,(by show (0:Int)<2;decide),l1,_,_,_,rfl,rfl,SqL.of aaA,hv,_,_,rfl,rfl,k0,_,_,rfl,rfl,?_⟩⟩
 have s0:=Int.emod_nonneg st (show k≠0 by omega)
 have s1:=Int.emod_lt_of_pos st k0
 obtain⟨S,eS⟩:∃S,S=1+st%k:=⟨_,rfl⟩
 have ss:1<=S/\S<=99:=by omega
 have hS0:0<S:=Int.lt_of_lt_of_le (by decide) ss.1
 have hSm:S<=1000:=Int.le_trans ss.2 (by decide)
 have hSx:S<1073741824:=Int.lt_of_le_of_lt ss.2 (by decide)
 show ab3 3 (V.int (1+st%k)) _ _ _
 rw[←eS]
 have sl:=aaB hl1 (.lst [V.int 99,V.int 5])
 clear s0 s1 eS
 have qS:=sm S (Int.le_of_lt hS0) ss.2
 have lS:=nl S (Int.le_of_lt hS0) ss.2
 refine⟨_,rfl,_,_,rfl,rfl,_,rfl,ifD (fun c=>?g2) (fun c2=>⟨_,rfl,_,_,rfl,rfl,_,rfl,ifD (fun c=>?g3) (fun c3=>?g4)⟩)⟩
 case g2=>
  have n2:=adA (a:=A) (b:=hi) (s:=S) hA0 (up hb.2.2).1 hS0
  refine⟨_,rfl,A.toNat,qA.2,qA.1,_,_,rfl,rfl,z4' (t2 lA).1 (by decide),_,rfl,S.toNat,qS.2,qS.1,_,_,rfl,rfl,z4' (by rw[List.length_append];exact (t2 lA).2) (t2 lS).1,_,rfl,_,rfl,_,_,rfl,rfl,_,rfl,_,_,_,rfl,⟨hS0,hSx⟩,fun r hr=>⟨r,A,hi+1,S,(Builtin.Range.rangeSize A (hi+1) S).toNat,rfl,aaA,acX hA0 (up hA31).1 (dn hh0) (up hb.2.2).1 hS0 hSm,n2.2,tn n2.1,fun u hu=>⟨(by show 2<=sizeLine;decide),fun t ht=>?_⟩⟩⟩
  exact q t u _ (acI A hi S) _ (sl.trans ((aaB hr _).trans ((aaB hu _).trans (aaB ht _)))) aaA ((aaB ht _) _ _ (by rw[ab4,List.map_map];exact aaA)) (by rw[List.append_assoc];exact i4 hb.1 a1.1 a1.2 hb.2.2 ss) (apG (c42 (c42 (n42 (by omega)) (by decide)) (n42 (by omega))))
 case g3=>
  have n2:=adA (a:=A) (b:=B) (s:=S) hA0 (up hB31).1 hS0
  refine⟨_,rfl,A.toNat,qA.2,qA.1,_,_,rfl,rfl,z4' (t2 lA).1 (by decide),_,rfl,B.toNat,qB.2,qB.1,_,_,rfl,rfl,z4' (by rw[List.length_append];exact (t2 lA).2) (t2 lB).1,_,_,rfl,rfl,z4' (by rw[List.length_append,List.length_append];exact (t5 lA lB).1) (by decide),_,rfl,S.toNat,qS.2,qS.1,_,_,rfl,rfl,z4' (by rw[List.length_append,List.length_append,List.length_append];exact (t5 lA lB).2) (t2 lS).1,_,rfl,_,rfl,_,_,rfl,rfl,_,rfl,_,_,_,rfl,⟨hS0,hSx⟩,fun r hr=>⟨r,A,B+1,S,(Builtin.Range.rangeSize A (B+1) S).toNat,rfl,aaA,acX hA0 (up hA31).1 (dn hB0) (up hB31).1 hS0 hSm,n2.2,tn n2.1,fun u hu=>⟨(by show 2<=sizeLine;decide),fun t ht=>?_⟩⟩⟩
  have e5:((num A.toNat++[45])++num B.toNat++[47])++num S.toNat=(num A.toNat++45::num B.toNat)++47::num S.toNat:=by simp
  exact q t u _ (acI A B S) _ (sl.trans ((aaB hr _).trans ((aaB hu _).trans (aaB ht _)))) aaA ((aaB ht _) _ _ (by rw[ab4,List.map_map];exact aaA)) (by rw[e5];exact i5 hb.1 a1.1 b1.1 b1.2 hb.2.2 ss) (apG (c42 (c42 (c42 (c42 (n42 (by omega)) (by decide)) (n42 (by omega))) (by decide)) (n42 (by omega))))
 case g4=>
  have n2:=adA (a:=lo) (b:=hi) (s:=S) hb.1 (up hb.2.2).1 hS0
  refine⟨_,rfl,S.toNat,qS.2,qS.1,_,_,rfl,rfl,z4' (by decide) (t2 lS).1,_,rfl,_,rfl,_,_,rfl,rfl,_,rfl,_,_,_,rfl,⟨hS0,hSx⟩,fun r hr=>⟨r,lo,hi+1,S,(Builtin.Range.rangeSize lo (hi+1) S).toNat,rfl,aaA,acX hb.1 (up hl31).1 (dn hh0) (up hb.2.2).1 hS0 hSm,n2.2,tn n2.1,fun u hu=>⟨(by show 2<=sizeLine;decide),fun t ht=>?_⟩⟩⟩
  exact q t u _ (acI lo hi S) _ (sl.trans ((aaB hr _).trans ((aaB hu _).trans (aaB ht _)))) aaA ((aaB ht _) _ _ (by rw[ab4,List.map_map];exact aaA)) (i3 hb.1 hb.2.1 hb.2.2 ss) (fun e=>by have:=congrArg List.length e;simp at this)
theorem aaZ:Df P w K mg base "_law_mask" 1 ["_law_numbers"] (al2 K):=by
 refine ZZ.F__law_mask.dfs anD (fun vs H Q E h=>?_) (fun f cdv A outer s H vs Q E hr h=>?_)
 ·obtain⟨a,ns,rfl,hS,hlen,hin,q⟩:=h
  rfl
 obtain⟨a,ns,rfl,hS,hlen,hin,q⟩:=h
 refine⟨_,(ss1 (aaF (eCB aO8 ZZ.z_sum PyProof.Rows.boot_sum (aC (acO [] [] (iL (eCB cSrt ZZ.z_sorted PyProof.Rows.boot_sorted (aC (eCT cSet ZZ.z_set PyProof.Rows.boot_set (aC (v_ 0) aN)) aN))) (fun _ _ _ _ _ _=>fsN) (fun _ _ _ _ _ _=>(eOp afE eI (v_ 0)))) aN)))),?_⟩
 refine⟨_,rfl,a,ns,rfl,hS,(by omega),fun st hst=>⟨st,ns,rfl,aaA,(fun x hx=>by have:=hin x hx;omega),fun so zs hso hpw hmem=>?_⟩⟩
 have hz:∀d∈zs,0<=d/\d<=62:=fun d hd=>hin d ((hmem d).mp hd)
 have hzl:=awS (n:=63) 0 hpw (fun d hd=>by have:=hz d hd;omega) (by decide)
 have s1:=(aaB hst (stO P w st ns)).trans (aaB hso (.lst (zs.map V.int)))
 refine⟨so,rfl,⟨_,SqL.of aaA⟩,acZ (xs:=zs.map V.int) (fun i z=>z=((zs.take i).map fun d=>V.int (1*2^d.toNat))) (by rw[List.length_map,sizeLine_eq];omega) rfl (SqL.of aaA) ?_ ?_⟩
 ·intro i v z D H2 E' F' hv hR hD s2 hz2 hE hF
  subst hR
  rw[List.getElem?_map] at hv
  cases ez:zs[i]? with
  |none=>rw[ez] at hv;cases hv
  |some d=>
   rw[ez] at hv
   obtain rfl:V.int d=v:=Option.some.inj hv
   have hd:=hz d (List.mem_of_getElem? ez)
   exact⟨_,rfl,_,_,rfl,rfl,⟨hd.1,by omega,by decide⟩,hE _ _ (Same.refl _) (by rw[List.take_succ,ez,List.map_append];rfl)⟩
 ·intro D H2 z hR hD s2 hz2
  subst hR
  rw[List.length_map,List.take_length] at hz2
  refine⟨D,zs.map fun d=>1*2^d.toNat,rfl,SqL.of (by rw[hz2,List.map_map];rfl),?_⟩
  exact q zs H2 hpw hmem (s1.trans s2)
theorem anE:Df P w K mg base "_law_spec" 2 ["_law_parts","_law_week"] (anQ K):=by
 refine ZZ.F__law_spec.dfs sc__law_spec (fun vs H Q E h=>?_) (fun f cdv A outer s H vs Q E hr h=>?_)
 ·obtain⟨p,b,way,fi,la,st,rfl,hp,hw,q⟩:=h
  rfl
 obtain⟨p,b,way,fi,la,st,rfl,hp,hw,q⟩:=h
 refine⟨_,(ssC (af4 (v_ 0) (aJY (gsC (gN 2 sc__law_spec.nd) (gsC (gN 3 sc__law_spec.nd) (gsC (gN 4 sc__law_spec.nd) (gsC (gN 5 sc__law_spec.nd) gsN))))))
   (ssC (sIf (tVa (v_ 1)) (ssC (aaI 6 (eOp aaW (v_ 3) eI) sc__law_spec.nd)
   (ssC (sIf (tCm oLt (v_ 2) eI) (ss1 (aaF (aa5 (aC (eOp acL (eOp acL (eCT acP ZZ.z_str PyProof.Rows.boot_str (aC (v_ 6) aN)) (eSx [35])) (eCT acP ZZ.z_str PyProof.Rows.boot_str (aC (eOp aaL eI (eOp aaW (v_ 4) eI)) aN))) (aC (aa5 (aC (eSx [110,116,104]) (aC (eOp aaW (v_ 6) eI) (aC (eOp aaL eI (eOp aaW (v_ 4) eI)) aN)))) aN))))) ssN)
   (ssC (sIf (tCm oLt (v_ 2) eI) (ss1 (aaF (aa5 (aC (eOp acL (eCT acP ZZ.z_str PyProof.Rows.boot_str (aC (v_ 6) aN)) (eSx [76])) (aC (aa5 (aC (eSx [108,97,115,116,111,110,101]) (aC (eOp aaW (v_ 6) eI) (aC eI aN)))) aN))))) ssN)
   (ssC (af4 (eD (adB ZZ) hr (aC (eIx xL (abW (aC (eOp aa9 (v_ 2) eI) (aC eI aN))) (eCT avY ZZ.z_int PyProof.Rows.boot_int (aC (adF oGt (v_ 2) eI) aN))) (aC (v_ 3) (aC (v_ 4) (aC (v_ 5) (aC (aa5 (aC eI (aC eI aN))) aN)))))) (gTu (gsC (gN 7 sc__law_spec.nd) (gsC (gN 8 sc__law_spec.nd) gsN))))
   (ss1 (aaF (aa5 (aC (v_ 7) (aC (aa5 (aC (eSx [112,108,97,105,110]) (aC (eD (aaZ ZZ) hr (aC (acO [] [] (iL (v_ 8)) (fun _ _ _ _ _ _=>fsN) (fun _ _ _ _ _ _=>(eOp aaW (v_ 0) eI))) aN)) (aC eI aN)))) aN))))))))) ssN)
   (ssC (sIf (tCm oEq (v_ 2) eI) (ss1 (aaF (aa5 (aC (eSx [76]) (aC (aa5 (aC (eSx [108,97,115,116]) (aC eI (aC eI aN)))) aN))))) ssN)
   (ssC (sIf (tCm oLt (v_ 2) eI) (ss1 (aaF (aa5 (aC (eOp acL (eSx [76,45]) (eCT acP ZZ.z_str PyProof.Rows.boot_str (aC (eOp aaL eI (eOp aaW (v_ 3) eI)) aN))) (aC (aa5 (aC (eSx [108,97,115,116]) (aC (eOp aaL eI (eOp aaW (v_ 3) eI)) (aC eI aN)))) aN))))) ssN)
   (ssC (sIf (tCm oLt (v_ 2) eI) (ss1 (aaF (aa5 (aC (eOp acL (eCT acP ZZ.z_str PyProof.Rows.boot_str (aC (eOp aaL eI (eOp aaW (v_ 3) eI)) aN)) (eSx [87])) (aC (aa5 (aC (eSx [110,101,97,114]) (aC (eOp aaL eI (eOp aaW (v_ 3) eI)) (aC eI aN)))) aN))))) ssN)
   (ssC (sIf (tCm oEq (v_ 2) eI) (ss1 (aaF (aa5 (aC (eSx [76,87]) (aC (aa5 (aC (eSx [119,111,114,107]) (aC eI (aC eI aN)))) aN))))) ssN)
   (ssC (af4 (eD (adB ZZ) hr (aC (eIx xL (abW (aC (eOp aa9 (v_ 2) eI) (aC eI aN))) (eCT avY ZZ.z_int PyProof.Rows.boot_int (aC (adF oGt (v_ 2) eI) aN))) (aC (v_ 3) (aC (v_ 4) (aC (v_ 5) (aC (aa5 (aC eI (aC eI aN))) aN)))))) (gTu (gsC (gN 7 sc__law_spec.nd) (gsC (gN 8 sc__law_spec.nd) gsN))))
   (ss1 (aaF (aa5 (aC (v_ 7) (aC (aa5 (aC (eSx [112,108,97,105,110]) (aC (eD (aaZ ZZ) hr (aC (v_ 8) aN)) (aC eI aN)))) aN)))))))))))),?_⟩
 have sm:∀z:Int,0<=z->z<=99->z.toNat<10^500/\[V.int z]=[V.int (z.toNat:Nat)]:=fun z h1 h2=>⟨Nat.lt_of_lt_of_le (show z.toNat<100 by omega) (by decide +kernel),by rw[Int.toNat_of_nonneg h1]⟩
 have nl:∀z:Int,0<=z->z<=99->(num z.toNat).length<=2:=fun z h1 h2=>(ag2 _ (by omega)).2.2.2
 have z4':∀{n m:Nat},n<=20->m<=20->n+m<=sizeLine:=fun {n m} h1 h2=>by rw[sizeLine_eq];omega
 refine⟨_,rfl,p,_,rfl,hp,rfl,_,_,rfl,_,_,rfl,_,_,rfl,_,_,rfl,rfl,?_⟩
 refine⟨_,rfl,_,rfl,?_⟩
 cases b with
 |true=>
  refine aa8 ⟨_,rfl,_,_,rfl,rfl,(by show (0:Int)<8;decide),?_⟩
  have d0:=Int.emod_nonneg fi (show (8:Int)≠0 by decide)
  have d1:=Int.emod_lt_of_pos fi (show (0:Int)<8 by decide)
  obtain⟨dy,edy⟩:∃dy,dy=fi%8:=⟨_,rfl⟩
  show ab3 6 (V.int (fi%8)) _ _ _
  rw[←edy]
  have f0:=Int.emod_nonneg la (show (5:Int)≠0 by decide)
  have f1:=Int.emod_lt_of_pos la (show (0:Int)<5 by decide)
  have g0:=Int.emod_nonneg dy (show (7:Int)≠0 by decide)
  have g1:=Int.emod_lt_of_pos dy (show (0:Int)<7 by decide)
  have qD:=sm dy (by omega) (by omega)
  have lD:=nl dy (by omega) (by omega)
  have qM:=sm (1+la%5) (by omega) (by omega)
  have lM:=nl (1+la%5) (by omega) (by omega)
  refine⟨_,rfl,_,_,rfl,rfl,_,rfl,ifD (fun c=>?w0) (fun c0=>⟨_,rfl,_,_,rfl,rfl,_,rfl,ifD (fun c=>?w1) (fun c1=>?w2)⟩)⟩
  case w0=>
   refine⟨_,rfl,dy.toNat,qD.2,qD.1,_,_,rfl,rfl,z4' (by omega) (by decide),_,rfl,_,_,rfl,rfl,(by show (0:Int)<5;decide),_,_,rfl,rfl,(1+la%5).toNat,qM.2,qM.1,_,_,rfl,rfl,z4' (by rw[List.length_append];show _+1<=20;omega) (by omega),_,rfl,_,_,rfl,rfl,(by show (0:Int)<7;decide),_,rfl,_,_,rfl,rfl,(by show (0:Int)<5;decide),_,_,rfl,rfl,(by show 3<=sizeLine;decide),fun u hu=>⟨(by show 2<=sizeLine;decide),fun t ht=>?_⟩⟩
   have z:=aO6 dy.toNat (by omega) (1+la%5).toNat (by omega) (by omega)
   rw[Int.toNat_of_nonneg (by omega),Int.toNat_of_nonneg (by omega)] at z
   exact q t u _ (.nth (dy%7) (1+la%5)) _ ((aaB hu _).trans (aaB ht _)) aaA ((aaB ht _) _ _ aaA) ⟨⟨by omega,by omega⟩,by omega,by omega⟩ rfl rfl z.1 z.2 (apG (c42 (c42 (n42 (by omega)) (by decide)) (n42 (by omega))))
  case w1=>
   refine⟨_,rfl,dy.toNat,qD.2,qD.1,_,_,rfl,rfl,z4' (by omega) (by decide),_,rfl,_,_,rfl,rfl,(by show (0:Int)<7;decide),(by show 3<=sizeLine;decide),fun u hu=>⟨(by show 2<=sizeLine;decide),fun t ht=>?_⟩⟩
   have z:=aM6 dy.toNat (by omega)
   rw[Int.toNat_of_nonneg (by omega)] at z
   exact q t u _ (.one (dy%7)) _ ((aaB hu _).trans (aaB ht _)) aaA ((aaB ht _) _ _ aaA) ⟨by omega,by omega⟩ rfl rfl z.1 z.2 (apG (c42 (n42 (by omega)) (by decide)))
  case w2=>
   refine⟨_,rfl,_,_,rfl,rfl,(by show 2<=sizeLine;decide),fun l1 hl1=>?_⟩
   obtain⟨x,hx⟩:∃x:Int,atI [V.int (way-6),V.int 1] (if decide (13<way) then 1 else 0)=some (V.int x):=by
    by_cases c:13<way
    ·rw[decide_eq_true c];exact⟨1,rfl⟩
    ·rw[decide_eq_false c];exact⟨_,rfl⟩
   have s1:=aaB hl1 (.lst [V.int (way-6),V.int 1])
   refine⟨_,rfl,_,_,rfl,rfl,.inr ⟨_,rfl,l1,_,_,_,rfl,rfl,SqL.of aaA,hx,_,rfl,_,rfl,_,rfl,(by show 2<=sizeLine;decide),fun tb htb=>?_⟩⟩
   have s2:=s1.trans (aaB htb (.tup [V.int 0,V.int 7]))
   refine⟨tb,x,fi,la,st,0,7,rfl,SqT.of aaA,⟨by decide,by decide,by decide⟩,fun t u tw ns H3 s3 ht hu it h42=>?_⟩
   have hin:=it.2.2.1
   have hlen:=it.2.2.2.2
   refine⟨t,_,rfl,SqT.of ht,rfl,_,_,rfl,_,_,rfl,rfl,?_⟩
   refine⟨_,rfl,_,rfl,u,rfl,⟨_,SqL.of hu⟩,acZ (xs:=ns.map V.int) (fun i z=>z=((ns.take i).map fun d=>V.int (d%7))) (by rw[List.length_map,sizeLine_eq];omega) rfl (SqL.of hu) ?_ ?_⟩
   ·intro i v z D H4 E' F' hv hR hD s4 hz hE hF
    subst hR
    rw[List.getElem?_map] at hv
    cases ez:ns[i]? with
    |none=>rw[ez] at hv;cases hv
    |some d=>
     rw[ez] at hv
     obtain rfl:V.int d=v:=Option.some.inj hv
     exact⟨_,rfl,_,_,rfl,rfl,(by show (0:Int)<7;decide),hE _ _ (Same.refl _) (by rw[List.take_succ,ez,List.map_append];rfl)⟩
   ·intro D H4 z hR hD s4 hz
    subst hR
    rw[List.length_map,List.take_length] at hz
    have hm7:∀n∈ns.map (fun d=>d%7),0<=n/\n<=6:=fun n hn=>by
     obtain⟨d,_,rfl⟩:=List.mem_map.mp hn
     show 0<=d%7/\d%7<=6
     omega
    refine⟨D,ns.map (fun d=>d%7),rfl,SqL.of (by rw[hz,List.map_map];rfl),(by rw[List.length_map];omega),(fun n hn=>by have:=hm7 n hn;omega),fun zs H5 hpw hmem s5=>⟨(by show 3<=sizeLine;decide),fun u' hu'=>⟨(by show 2<=sizeLine;decide),fun t' ht'=>?_⟩⟩⟩
    have hb:=asC (n:=7) 0 hpw (fun d hd=>by have:=hm7 d ((hmem d).mp hd);omega) (by decide)
    have e128:(2:Int)^7=128:=by decide
    have e1:(2:Int)^0=1:=by decide
    have hlt:=ajA (n:=8) (fun z hz=>by have:=hin z hz;omega)
    have e256:(2:Int)^8=256:=by decide
    exact q t' u' _ (.wkd (abV zs)) _ (s2.trans (s3.trans (s4.trans (s5.trans ((aaB hu' _).trans (aaB ht' _)))))) aaA ((aaB ht' _) _ _ aaA) ⟨aiT _,by omega⟩ rfl rfl ⟨rfl,aa3 ns,it.1,⟨aeJ it.2.2.2.1 (fun n hn=>(hin n hn).1),by omega⟩,aDF hpw hmem hin⟩ it.2.1 h42
 |false=>
  refine aaU ?_
  have f0:=Int.emod_nonneg fi (show (30:Int)≠0 by decide)
  have f1:=Int.emod_lt_of_pos fi (show (0:Int)<30 by decide)
  have g0:=Int.emod_nonneg fi (show (31:Int)≠0 by decide)
  have g1:=Int.emod_lt_of_pos fi (show (0:Int)<31 by decide)
  have qD:=sm (1+fi%30) (by omega) (by omega)
  have lD:=nl (1+fi%30) (by omega) (by omega)
  have qM:=sm (1+fi%31) (by omega) (by omega)
  have lM:=nl (1+fi%31) (by omega) (by omega)
  refine⟨_,rfl,rfl,_,rfl,ifI (fun c=>?m0) (fun c0=>⟨_,rfl,_,_,rfl,rfl,_,rfl,ifD (fun c=>?m1) (fun c1=>⟨_,rfl,_,_,rfl,rfl,_,rfl,ifD (fun c=>?m2) (fun c2=>⟨_,rfl,rfl,_,rfl,ifI (fun c=>?m3) (fun c3=>?m4)⟩)⟩)⟩)⟩
  case m0=>
   refine⟨(by show 3<=sizeLine;decide),fun u hu=>⟨(by show 2<=sizeLine;decide),fun t ht=>?_⟩⟩
   exact q t u _ (.lst 0) _ ((aaB hu _).trans (aaB ht _)) aaA ((aaB ht _) _ _ aaA) ⟨by decide,by decide⟩ rfl rfl ax5.1 ax5.2 (by decide)
  case m1=>
   refine⟨_,rfl,_,_,rfl,rfl,(by show (0:Int)<30;decide),_,_,rfl,rfl,(1+fi%30).toNat,qD.2,qD.1,_,_,rfl,rfl,z4' (by decide) (by omega),_,rfl,_,_,rfl,rfl,(by show (0:Int)<30;decide),_,_,rfl,rfl,(by show 3<=sizeLine;decide),fun u hu=>⟨(by show 2<=sizeLine;decide),fun t ht=>?_⟩⟩
   have z:=aLD (1+fi%30).toNat (by omega) (by omega)
   rw[Int.toNat_of_nonneg (by omega)] at z
   exact q t u _ (.lst (1+fi%30)) _ ((aaB hu _).trans (aaB ht _)) aaA ((aaB ht _) _ _ aaA) ⟨by omega,by omega⟩ rfl rfl z.1 z.2 (apG (c42 (by decide) (n42 (by omega))))
  case m2=>
   refine⟨_,rfl,_,_,rfl,rfl,(by show (0:Int)<31;decide),_,_,rfl,rfl,(1+fi%31).toNat,qM.2,qM.1,_,_,rfl,rfl,z4' (by omega) (by decide),_,rfl,_,_,rfl,rfl,(by show (0:Int)<31;decide),_,_,rfl,rfl,(by show 3<=sizeLine;decide),fun u hu=>⟨(by show 2<=sizeLine;decide),fun t ht=>?_⟩⟩
   have z:=aFJ (1+fi%31).toNat (by omega) (by omega)
   rw[Int.toNat_of_nonneg (by omega)] at z
   exact q t u _ (.nea (1+fi%31)) _ ((aaB hu _).trans (aaB ht _)) aaA ((aaB ht _) _ _ aaA) ⟨by omega,by omega⟩ rfl rfl z.1 z.2 (apG (c42 (n42 (by omega)) (by decide)))
  case m3=>
   refine⟨(by show 3<=sizeLine;decide),fun u hu=>⟨(by show 2<=sizeLine;decide),fun t ht=>?_⟩⟩
   exact q t u _ .wrk _ ((aaB hu _).trans (aaB ht _)) aaA ((aaB ht _) _ _ aaA) trivial rfl rfl awM.1 awM.2 (by decide)
  case m4=>
   refine⟨_,rfl,_,_,rfl,rfl,(by show 2<=sizeLine;decide),fun l1 hl1=>?_⟩
   obtain⟨x,hx⟩:∃x:Int,atI [V.int (way-6),V.int 1] (if decide (13<way) then 1 else 0)=some (V.int x):=by
    by_cases c:13<way
    ·rw[decide_eq_true c];exact⟨1,rfl⟩
    ·rw[decide_eq_false c];exact⟨_,rfl⟩
   have s1:=aaB hl1 (.lst [V.int (way-6),V.int 1])
   refine⟨_,rfl,_,_,rfl,rfl,.inr ⟨_,rfl,l1,_,_,_,rfl,rfl,SqL.of aaA,hx,_,rfl,_,rfl,_,rfl,(by show 2<=sizeLine;decide),fun tb htb=>?_⟩⟩
   have s2:=s1.trans (aaB htb (.tup [V.int 1,V.int 31]))
   refine⟨tb,x,fi,la,st,1,31,rfl,SqT.of aaA,⟨by decide,by decide,by decide⟩,fun t u tw ns H3 s3 ht hu it h42=>?_⟩
   have hin:=it.2.2.1
   have hlen:=it.2.2.2.2
   refine⟨t,_,rfl,SqT.of ht,rfl,_,_,rfl,_,_,rfl,rfl,?_⟩
   refine⟨_,rfl,_,rfl,u,ns,rfl,SqL.of hu,(by omega),(fun n hn=>by have:=hin n hn;omega),fun zs H5 hpw hmem s5=>⟨(by show 3<=sizeLine;decide),fun u' hu'=>⟨(by show 2<=sizeLine;decide),fun t' ht'=>?_⟩⟩⟩
   have em:=aeH hpw hmem (fun n hn=>by have:=hin n hn;omega)
   exact q t' u' _ (.num (abV zs)) _ (s2.trans (s3.trans (s5.trans ((aaB hu' _).trans (aaB ht' _))))) aaA ((aaB ht' _) _ _ aaA) (aiT _) rfl rfl ⟨rfl,by rw[em];exact it.1,by rw[em];exact aeJ it.2.2.2.1 (fun n hn=>by have:=hin n hn;omega)⟩ it.2.1 h42
theorem adQ:Df P w K mg base "_law_working" 1 ["_law_last_here","_law_first_here"] (aiP K):=by
 refine ZZ.F__law_working.dfs ah1 (fun vs H Q E h=>?_) (fun f cdv A outer s H vs Q E hr h=>?_)
 ·obtain⟨l,fi,rfl,hl,q⟩:=h
  rfl
 obtain⟨l,fi,rfl,hl,q⟩:=h
 refine⟨_,(ss1 (aaF (acO ["_law_first_here"] [1] (iR2 ZZ.z_range (aC eI (aC (eOp aaL (v_ 0) eI) aN))) (fun _ _ _ _ _ _=>(fs1 (tCh oLe oLe eI (eOp aaW (eOp aa9 (eOp aaL (v_ 1) (v_ 0)) eI) eI) eI))) (fun _ _ _ _ _ _=>(v_ 0))))),?_⟩
 have en:(l+1-1).toNat=l.toNat:=by omega
 refine⟨_,rfl,_,_,rfl,rfl,_,_,rfl,⟨by decide,by decide,by omega,by omega⟩,aa7 (fun i z=>z=(abM fi i).map V.int) (by show (l+1-1).toNat<=sizeLine;rw[sizeLine_eq];omega) rfl ?_ ?_⟩
 ·intro i z D H2 E' F' hi hR hD s2 hz hE hF
  subst hR
  refine⟨_,rfl,_,rfl,_,_,rfl,rfl,_,_,rfl,rfl,_,_,rfl,rfl,(by show (0:Int)<7;decide),_,_,rfl,rfl,_,rfl,?_⟩
  have no:wk fi i=false->abM fi (i+1)=abM fi i:=fun h=>by
   show abM fi i++(if wk fi i=true then [1+(i:Int)] else [])=_
   rw[h,if_neg Bool.false_ne_true,List.append_nil]
  have yes:wk fi i=true->abM fi (i+1)=abM fi i++[1+(i:Int)]:=fun h=>by
   show abM fi i++(if wk fi i=true then [1+(i:Int)] else [])=_
   rw[if_pos h]
  refine ifD (fun c1=>⟨_,_,rfl,rfl,_,rfl,?_⟩) (fun c1=>⟨_,rfl,?_⟩)
  ·refine ifD (fun c2=>⟨_,rfl,hE _ _ (Same.refl _) ?_⟩) (fun c2=>hF _ (Same.refl _) ?_)
   ·rw[yes (by unfold wk;rw[decide_eq_true c1,decide_eq_true c2];rfl),adR]
   ·rw[no (by unfold wk;rw[decide_eq_true c1,decide_eq_false c2];rfl)]
  ·exact hF _ (Same.refl _) (by rw[no (by unfold wk;rw[decide_eq_false c1];rfl)])
 ·intro D H2 z hR hD s2 hz
  subst hR
  rw[en] at hz
  exact q D H2 s2 hz
theorem anP:Df P w K mg base "_law_near" 2 ["_law_day","_law_last_here","_law_first_here"] (am9 K):=by
 refine ZZ.F__law_near.dfs sc__law_near (fun vs H Q E h=>?_) (fun f cdv A outer s H vs Q E hr h=>?_)
 ·obtain⟨d,l,fi,rfl,ok,q⟩:=h
  rfl
 obtain⟨d,l,fi,rfl,ok,q⟩:=h
 refine⟨_,(ssC (sIf (tCm oGt (v_ 0) (v_ 1)) (ss1 (aaF eI)) ssN)
   (ssC (aaI 3 eI sc__law_near.nd)
   (ssC (afK (iL (eD (adQ ZZ) hr (aC (v_ 1) (aC (v_ 2) aN)))) (gN 4 sc__law_near.nd) (ss1 (sIf (tW (wOr (tCm oEq (v_ 3) eI) (akT (tCm oLt (eCB aBV ZZ.z_abs PyProof.Rows.boot_abs (aC (eOp aa9 (v_ 4) (v_ 0)) aN)) (eCB aBV ZZ.z_abs PyProof.Rows.boot_abs (aC (eOp aa9 (v_ 3) (v_ 0)) aN)))))) (ss1 (aaI 3 (v_ 4) sc__law_near.nd)) ssN)) PassesOwn.never)
   (ss1 (aaF (eOp afE eI (v_ 3))))))),?_⟩
 refine⟨_,rfl,_,rfl,_,_,rfl,rfl,_,rfl,ifD (fun c=>?_) (fun c=>?_)⟩
 ·have e:agU d l fi=0:=by unfold agU;rw[if_pos c]
  rw[e] at q
  exact q H (Same.refl H)
 have e:agU d l fi=1*2^(nw d l fi).toNat:=by unfold agU;rw[if_neg c]
 rw[e] at q
 have hn:=aiU ok (by omega)
 refine⟨_,rfl,_,rfl,_,_,rfl,ok.2.1,fun p H1 s1 hp=>?_⟩
 refine⟨p,rfl,⟨_,SqL.of hp⟩,abS (K:=K) (a:=p) (xs:=(abM fi l.toNat).map V.int) (fun i σ H2=>H2=H1/\∃u:Option V,σ=[some (.int d),some (.int l),some (.int fi),some (.int (((abM fi l.toNat).take i).foldl (stp d) 0)),u]) ⟨rfl,_,rfl⟩ (fun i σ H2 _ hP=>by rw[hP.1];exact SqL.of hp) ?_ ?_⟩
 ·rintro i x σ H2 hx ⟨rfl,u,rfl⟩
  rw[List.getElem?_map] at hx
  cases ez:(abM fi l.toNat)[i]? with
  |none=>rw[ez] at hx;cases hx
  |some z=>
   rw[ez] at hx
   obtain rfl:V.int z=x:=Option.some.inj hx
   have et:((abM fi l.toNat).take (i+1)).foldl (stp d) 0=stp d (((abM fi l.toNat).take i).foldl (stp d) 0) z:=by
    rw[List.take_succ,ez,List.foldl_append]
    rfl
   rw[et]
   generalize ((abM fi l.toNat).take i).foldl (stp d) 0=acc
   refine⟨_,rfl,rfl,_,rfl,ifI (fun c1=>?_) (fun c1=>⟨_,rfl,_,rfl,_,_,rfl,rfl,_,rfl,_,rfl,_,rfl,_,_,rfl,rfl,_,rfl,_,_,rfl,rfl,_,rfl,ifD (fun c2=>?_) (fun c2=>?_)⟩)⟩
   ·exact⟨_,rfl,rfl,_,by unfold stp;rw[if_pos c1];rfl⟩
   ·exact⟨_,rfl,rfl,_,by unfold stp;rw[if_neg c1,if_pos (show ab (z-d)<ab (acc-d) from c2)];rfl⟩
   ·exact⟨rfl,_,by unfold stp;rw[if_neg c1,if_neg (show ¬ab (z-d)<ab (acc-d) from c2)];rfl⟩
 ·rintro σ H2 ⟨rfl,u,rfl⟩
  rw[List.length_map,List.take_length,hn.1]
  exact⟨_,rfl,_,_,rfl,rfl,⟨by omega,by omega,by decide⟩,q _ s1⟩
theorem ajL:Df P w K mg base "_law_on" 1 ["_law_which","_law_last_here","_law_first_here"] (aq0 K):=by
 refine ZZ.F__law_on.dfs ap6 (fun vs H Q E h=>?_) (fun f cdv A outer s H vs Q E hr h=>?_)
 ·obtain⟨wd,l,fi,rfl,hl,q⟩:=h
  rfl
 obtain⟨wd,l,fi,rfl,hl,q⟩:=h
 refine⟨_,(ss1 (aaF (acO ["_law_which","_law_first_here"] [0,2] (iR2 ZZ.z_range (aC eI (aC (eOp aaL (v_ 1) eI) aN))) (fun _ _ _ _ _ _=>(fs1 (tCm oEq (eOp aaW (eOp aa9 (eOp aaL (v_ 2) (v_ 0)) eI) eI) (v_ 1)))) (fun _ _ _ _ _ _=>(v_ 0))))),?_⟩
 have en:(l+1-1).toNat=l.toNat:=by omega
 refine⟨_,rfl,_,_,rfl,rfl,_,_,rfl,⟨by decide,by decide,by omega,by omega⟩,aa7 (fun i z=>z=(onN fi wd i).map V.int) (by show (l+1-1).toNat<=sizeLine;rw[sizeLine_eq];omega) rfl ?_ ?_⟩
 ·intro i z D H2 E' F' hi hR hD s2 hz hE hF
  subst hR
  refine⟨_,rfl,_,rfl,_,_,rfl,rfl,_,_,rfl,rfl,_,_,rfl,rfl,(by show (0:Int)<7;decide),_,rfl,rfl,_,rfl,?_⟩
  refine ifI (fun c=>⟨_,rfl,hE _ _ (Same.refl _) ?_⟩) (fun c=>hF _ (Same.refl _) ?_)
  ·have e:onN fi wd (i+1)=onN fi wd i++[1+(i:Int)]:=by
    show onN fi wd i++(if onD fi wd i=true then [1+(i:Int)] else [])=_
    rw[if_pos (by unfold onD;exact decide_eq_true c)]
   rw[e,adR]
  ·have e:onN fi wd (i+1)=onN fi wd i:=by
    show onN fi wd i++(if onD fi wd i=true then [1+(i:Int)] else [])=_
    rw[if_neg (by unfold onD;rw[decide_eq_false c];exact Bool.false_ne_true),List.append_nil]
   rw[e]
 ·intro D H2 z hR hD s2 hz
  subst hR
  rw[en] at hz
  exact q D H2 s2 hz
theorem am2:Df P w K mg base "_law_days" 3 ["_law_spec_here","_law_last_here","_law_first_here","_law_week"] (anC K):=by
 refine ZZ.F__law_days.dfs sc__law_days (fun vs H Q E h=>?_) (fun f cdv A outer s H vs Q E hr h=>?_)
 ·obtain⟨u,k,l,fi,rfl,hu,hok,hsp,hlf,q⟩:=h
  rfl
 obtain⟨u,k,l,fi,rfl,hu,hok,hsp,hlf,q⟩:=h
 refine⟨_,(ssC (af4 (v_ 0) (gTu (gsC (gN 4 sc__law_days.nd) (gsC (gN 5 sc__law_days.nd) (gsC (gN 6 sc__law_days.nd) gsN)))))
   (ssC (sIf (tW (aoA (tCm oEq (v_ 4) (eSx [112,108,97,105,110])) (ajO (tVa (v_ 3))))) (ss1 (aaF (eD (aaZ ZZ) hr (aC (acO ["_law_one","_law_first_here"] [5,2] (iR2 ZZ.z_range (aC eI (aC (eOp aaL (v_ 1) eI) aN))) (fun _ _ _ _ _ _=>(fs1 (tCm oEq (eOp ah2 (eOp aj2 (v_ 1) (eOp aaW (eOp aa9 (eOp aaL (v_ 2) (v_ 0)) eI) eI)) eI) eI))) (fun _ _ _ _ _ _=>(v_ 0))) aN)))) ssN)
   (ssC (sIf (tCm oEq (v_ 4) (eSx [112,108,97,105,110])) (ss1 (aaF (eD (aaZ ZZ) hr (aC (acO ["_law_one"] [5] (iR2 ZZ.z_range (aC eI (aC (eOp aaL (v_ 1) eI) aN))) (fun _ _ _ _ _ _=>(fs1 (tCm oEq (eOp ah2 (eOp aj2 (v_ 1) (v_ 0)) eI) eI))) (fun _ _ _ _ _ _=>(v_ 0))) aN)))) ssN)
   (ssC (sIf (tCm oEq (v_ 4) (eSx [108,97,115,116])) (ss1 (aaF (eD (aaZ ZZ) hr (aC (acO ["_law_last_here","_law_one"] [1,5] (iR2 ZZ.z_range (aC eI (aC (eOp aaL (v_ 1) eI) aN))) (fun _ _ _ _ _ _=>(fs1 (tCm oEq (eOp aaL (v_ 0) (v_ 2)) (v_ 1)))) (fun _ _ _ _ _ _=>(v_ 0))) aN)))) ssN)
   (ssC (sIf (tCm oEq (v_ 4) (eSx [110,101,97,114])) (ss1 (aaF (eD (anP ZZ) hr (aC (v_ 5) (aC (v_ 1) (aC (v_ 2) aN)))))) ssN)
   (ssC (sIf (tCm oEq (v_ 4) (eSx [119,111,114,107])) (ss1 (aaF (eOp afE eI (eIx xL (eD (adQ ZZ) hr (aC (v_ 1) (aC (v_ 2) aN))) (eUn aq1 eI))))) ssN)
   (ssC (sIf (tCm oEq (v_ 4) (eSx [110,116,104])) (ss1 (aaF (eD (aaZ ZZ) hr (aC (eSl slL (eD (ajL ZZ) hr (aC (v_ 5) (aC (v_ 1) (aC (v_ 2) aN)))) (poS (eOp aa9 (v_ 6) eI)) (poS (v_ 6))) aN)))) ssN)
   (ss1 (aaF (eOp afE eI (eIx xL (eD (ajL ZZ) hr (aC (v_ 5) (aC (v_ 1) (aC (v_ 2) aN)))) (eUn aq1 eI)))))))))))),?_⟩
 obtain⟨hl,hf⟩:=id hlf
 have il:=at0 hl.1 hl.2
 have if_:=ajP hf.1 hf.2
 cases k with
 |nil=>cases hsp
 |wkd m=>
  refine⟨_,rfl,u,_,rfl,SqT.of hu,rfl,_,_,rfl,_,_,rfl,_,_,rfl,rfl,?_⟩
  refine⟨_,rfl,rfl,_,rfl,arI ⟨_,rfl,_,rfl,aa8 ?_⟩⟩
  refine⟨_,rfl,_,_,rfl,rfl,_,_,rfl,(rng hlf.1).1,aa7 (fun i z=>z=((wkN m fi) i).map V.int) (rng hlf.1).2.2 rfl ?_ ?_⟩
  ·intro i z D H2 E' F' hi hR hD s2 hz hE hF
   subst hR
   refine⟨_,rfl,_,rfl,_,rfl,_,_,rfl,rfl,_,_,rfl,rfl,_,_,rfl,rfl,(by show (0:Int)<7;decide),_,_,rfl,rfl,(by show (0:Int)<=(fi+(1+(i:Int))-1)%7;omega),_,_,rfl,rfl,rfl,_,rfl,?_⟩
   refine ifI (fun c=>⟨_,rfl,hE _ _ (Same.refl _) ?_⟩) (fun c=>hF _ (Same.refl _) ?_)
   ·have e:(wkN m fi) (i+1)=(wkN m fi) i++[1+(i:Int)]:=by
     show (wkN m fi) i++(if anF m fi i=true then [1+(i:Int)] else [])=_
     have cc:anF m fi i=true:=decide_eq_true c
     rw[if_pos cc]
    rw[e,adR]
   ·have e:(wkN m fi) (i+1)=(wkN m fi) i:=by
     show (wkN m fi) i++(if anF m fi i=true then [1+(i:Int)] else [])=_
     have cc:¬anF m fi i=true:=fun z=>c (of_decide_eq_true z)
     rw[if_neg cc,List.append_nil]
    rw[e]
  ·intro D H2 z hR hD s2 hz
   subst hR
   rw[(rng hlf.1).2.1] at hz
   obtain⟨hv,hlen,hpw,hin⟩:=(show wkD m l fi=abV (wkN m fi l.toNat)/\_ from ⟨(al7 m (awH hok.1 hok.2) l il fi if_).1,am4 (al7 m (awH hok.1 hok.2) l il fi if_).2⟩)
   refine⟨D,_,rfl,SqL.of hz,(by omega),(fun n hn=>by have:=hin n hn;omega),fun zs H3 hpz hmem s3=>?_⟩
   rw[apC hpz hpw hmem,←hv]
   exact q H3 (s2.trans s3)
 |num m=>
  refine⟨_,rfl,u,_,rfl,SqT.of hu,rfl,_,_,rfl,_,_,rfl,_,_,rfl,rfl,?_⟩
  refine⟨_,rfl,rfl,_,rfl,arI ⟨_,rfl,_,rfl,aaU ⟨_,rfl,rfl,_,rfl,arI ?_⟩⟩⟩
  refine⟨_,rfl,_,_,rfl,rfl,_,_,rfl,(rng hlf.1).1,aa7 (fun i z=>z=((acW m) i).map V.int) (rng hlf.1).2.2 rfl ?_ ?_⟩
  ·intro i z D H2 E' F' hi hR hD s2 hz hE hF
   subst hR
   refine⟨_,rfl,_,rfl,_,_,rfl,rfl,(by show (0:Int)<=1+(i:Int);omega),_,_,rfl,rfl,rfl,_,rfl,?_⟩
   refine ifI (fun c=>⟨_,rfl,hE _ _ (Same.refl _) ?_⟩) (fun c=>hF _ (Same.refl _) ?_)
   ·have e:(acW m) (i+1)=(acW m) i++[1+(i:Int)]:=by
     show (acW m) i++(if agX m i=true then [1+(i:Int)] else [])=_
     have cc:agX m i=true:=decide_eq_true c
     rw[if_pos cc]
    rw[e,adR]
   ·have e:(acW m) (i+1)=(acW m) i:=by
     show (acW m) i++(if agX m i=true then [1+(i:Int)] else [])=_
     have cc:¬agX m i=true:=fun z=>c (of_decide_eq_true z)
     rw[if_neg cc,List.append_nil]
    rw[e]
  ·intro D H2 z hR hD s2 hz
   subst hR
   rw[(rng hlf.1).2.1] at hz
   obtain⟨hv,hlen,hpw,hin⟩:=axX hok hl
   refine⟨D,_,rfl,SqL.of hz,(by omega),(fun n hn=>by have:=hin n hn;omega),fun zs H3 hpz hmem s3=>?_⟩
   rw[apC hpz hpw hmem,←hv]
   exact q H3 (s2.trans s3)
 |lst b=>
  refine⟨_,rfl,u,_,rfl,SqT.of hu,rfl,_,_,rfl,_,_,rfl,_,_,rfl,rfl,?_⟩
  refine⟨_,rfl,rfl,_,rfl,ac0 (by decide) ⟨_,rfl,rfl,_,rfl,ac0 (by decide) ⟨_,rfl,rfl,_,rfl,arI ?_⟩⟩⟩
  refine⟨_,rfl,_,_,rfl,rfl,_,_,rfl,(rng hlf.1).1,aa7 (fun i z=>z=((bkN b l) i).map V.int) (rng hlf.1).2.2 rfl ?_ ?_⟩
  ·intro i z D H2 E' F' hi hR hD s2 hz hE hF
   subst hR
   refine⟨_,rfl,_,rfl,_,_,rfl,rfl,_,rfl,rfl,_,rfl,?_⟩
   refine ifI (fun c=>⟨_,rfl,hE _ _ (Same.refl _) ?_⟩) (fun c=>hF _ (Same.refl _) ?_)
   ·have e:(bkN b l) (i+1)=(bkN b l) i++[1+(i:Int)]:=by
     show (bkN b l) i++(if decide (1+(i:Int)+b=l)=true then [1+(i:Int)] else [])=_
     have cc:decide (1+(i:Int)+b=l)=true:=decide_eq_true c
     rw[if_pos cc]
    rw[e,adR]
   ·have e:(bkN b l) (i+1)=(bkN b l) i:=by
     show (bkN b l) i++(if decide (1+(i:Int)+b=l)=true then [1+(i:Int)] else [])=_
     have cc:¬decide (1+(i:Int)+b=l)=true:=fun z=>c (of_decide_eq_true z)
     rw[if_neg cc,List.append_nil]
    rw[e]
  ·intro D H2 z hR hD s2 hz
   subst hR
   rw[(rng hlf.1).2.1] at hz
   obtain⟨hv,hlen,hpw,hin⟩:=(show ak4 b l=abV (bkN b l l.toNat)/\_ from ⟨(axY l il b (aN6 hok.1 hok.2)).1,am4 (axY l il b (aN6 hok.1 hok.2)).2⟩)
   refine⟨D,_,rfl,SqL.of hz,(by omega),(fun n hn=>by have:=hin n hn;omega),fun zs H3 hpz hmem s3=>?_⟩
   rw[apC hpz hpw hmem,←hv]
   exact q H3 (s2.trans s3)
 |nea d=>
  refine⟨_,rfl,u,_,rfl,SqT.of hu,rfl,_,_,rfl,_,_,rfl,_,_,rfl,rfl,?_⟩
  refine⟨_,rfl,rfl,_,rfl,ac0 (by decide) ⟨_,rfl,rfl,_,rfl,ac0 (by decide) ⟨_,rfl,rfl,_,rfl,ac0 (by decide) ⟨_,rfl,rfl,_,rfl,arI ?_⟩⟩⟩⟩
  exact⟨_,rfl,_,rfl,_,rfl,d,l,fi,rfl,⟨hok,hlf⟩,fun H' s'=>q H' s'⟩
 |wrk=>
  refine⟨_,rfl,u,_,rfl,SqT.of hu,rfl,_,_,rfl,_,_,rfl,_,_,rfl,rfl,?_⟩
  refine⟨_,rfl,rfl,_,rfl,ac0 (by decide) ⟨_,rfl,rfl,_,rfl,ac0 (by decide) ⟨_,rfl,rfl,_,rfl,ac0 (by decide) ⟨_,rfl,rfl,_,rfl,ac0 (by decide) ⟨_,rfl,rfl,_,rfl,arI ?_⟩⟩⟩⟩⟩
  have hn:=aiU hlf.last (Int.le_refl _)
  exact⟨_,rfl,_,rfl,_,_,rfl,hl,fun pw H6 s6 h6=>⟨_,rfl,pw,_,_,_,rfl,rfl,SqL.of h6,auN _ il _ if_,_,_,rfl,rfl,⟨by omega,by omega,by decide⟩,q H6 s6⟩⟩
 |nth w m=>
  refine⟨_,rfl,u,_,rfl,SqT.of hu,rfl,_,_,rfl,_,_,rfl,_,_,rfl,rfl,?_⟩
  refine⟨_,rfl,rfl,_,rfl,ac0 (by decide) ⟨_,rfl,rfl,_,rfl,ac0 (by decide) ⟨_,rfl,rfl,_,rfl,ac0 (by decide) ⟨_,rfl,rfl,_,rfl,ac0 (by decide) ⟨_,rfl,rfl,_,rfl,ac0 (by decide) ⟨_,rfl,rfl,_,rfl,arI ?_⟩⟩⟩⟩⟩⟩
  have hn:=arP l il fi if_ w (ajP hok.1.1 hok.1.2) m (aNG hok.2.1 hok.2.2)
  obtain⟨hlen,hpw,hin⟩:=am4 hn.2.1
  refine⟨_,rfl,_,rfl,_,rfl,w,l,fi,rfl,hl,fun ps H6 s6 h6=>⟨_,rfl,_,_,rfl,rfl,_,rfl,_,rfl,_,rfl,ps,_,rfl,SqL.of h6,fun pd hpd=>?_⟩⟩
  refine⟨pd,auZ (onN fi w l.toNat) (some (m-1)) (some m),rfl,SqL.of (by rw[←aJT];exact aaA),(by omega),(fun n hn=>by have:=hin n hn;omega),fun zs H7 hpz hmem s7=>?_⟩
  rw[apC hpz hpw hmem,←hn.1]
  exact q H7 (s6.trans ((aaB hpd _).trans s7))
 |one w=>
  refine⟨_,rfl,u,_,rfl,SqT.of hu,rfl,_,_,rfl,_,_,rfl,_,_,rfl,rfl,?_⟩
  refine⟨_,rfl,rfl,_,rfl,ac0 (by decide) ⟨_,rfl,rfl,_,rfl,ac0 (by decide) ⟨_,rfl,rfl,_,rfl,ac0 (by decide) ⟨_,rfl,rfl,_,rfl,ac0 (by decide) ⟨_,rfl,rfl,_,rfl,ac0 (by decide) ⟨_,rfl,rfl,_,rfl,ac0 (by decide) ?_⟩⟩⟩⟩⟩⟩
  have hn:=arK l il fi if_ w (ajP hok.1 hok.2)
  exact⟨_,rfl,_,rfl,_,rfl,w,l,fi,rfl,hl,fun ps H6 s6 h6=>⟨_,rfl,ps,_,_,_,rfl,rfl,SqL.of h6,hn.1,_,_,rfl,rfl,⟨hn.2.1,Int.le_trans hn.2.2 (by decide),by decide⟩,q H6 s6⟩⟩
theorem acQ:Df P w K mg base "_law_field" 3 ["_law_cell","_law_low","_law_high","_law_mixed"] (akM K):=by
 refine ZZ.F__law_field.dfs sc__law_field (fun vs H Q E h=>?_) (fun f cdv A outer s H vs Q E hr h=>?_)
 ·obtain⟨c,lo,hi,bm,rfl,hb,q⟩:=h
  rfl
 obtain⟨c,lo,hi,bm,rfl,hb,q⟩:=h
 refine⟨_,(ssC (aaI 4 (eOp aaL (eOp aa9 (v_ 2) (v_ 1)) eI) sc__law_field.nd)
   (ssC (aaI 5 (eD (acH ZZ) hr (aC (v_ 0) (aC (eOp aBC (abW (aC eI (aC eI aN))) (eOp aDU (abW (aC eI (aC (v_ 4) (aC (v_ 4) (aC eI aN))))) eI)) (aC (v_ 3) aN)))) sc__law_field.nd)
   (ssC (sIf (tCm oEq (eIx xL (v_ 5) eI) eI) (ss1 (aaF (aa5 (aC (eSx [42]) (aC (eD (aaZ ZZ) hr (aC (eCT cLR ZZ.z_list PyProof.Rows.boot_list (aC (eCT aPA ZZ.z_range boot_range (aC (v_ 1) (aC (eOp aaL (v_ 2) eI) aN))) aN)) aN)) aN))))) ssN)
   (ssC (aaI 6 (abW aN) sc__law_field.nd)
   (ssC (aaI 7 (abW aN) sc__law_field.nd)
   (ssC (afK (iR1 ZZ.z_range (aC (eOp aaL eI (eIx xL (v_ 5) eI)) aN)) (gN 8 sc__law_field.nd) (ssC (af4 (eSl slL (v_ 5) (poS (eOp aaL eI (eOp acS eI (v_ 8)))) (poS (eOp aaL eI (eOp acS eI (v_ 8))))) (aJY (gsC (gN 9 sc__law_field.nd) (gsC (gN 10 sc__law_field.nd) (gsC (gN 11 sc__law_field.nd) (gsC (gN 12 sc__law_field.nd) gsN))))))
   (ssC (af4 (eD (adB ZZ) hr (aC (v_ 9) (aC (v_ 10) (aC (v_ 11) (aC (v_ 12) (aC (aa5 (aC (v_ 1) (aC (v_ 2) aN))) aN)))))) (gTu (gsC (gN 13 sc__law_field.nd) (gsC (gN 14 sc__law_field.nd) gsN))))
   (ssC (atZ (atK (v_ 6) (v_ 13)))
   (ss1 (aaI 7 (eOp aOH (v_ 7) (v_ 14)) sc__law_field.nd))))) PassesOwn.never)
   (ss1 (aaF (aa5 (aC (auB (eSx [44]) (v_ 6)) (aC (eD (aaZ ZZ) hr (aC (v_ 7) aN)) aN))))))))))),?_⟩
 have hwd:(0:Int)<hi-lo+1/\hi-lo+1<1073741824:=by omega
 refine⟨_,rfl,_,rfl,_,_,rfl,rfl,_,_,rfl,rfl,?_⟩
 obtain⟨W,eW⟩:∃W,W=hi-lo+1:=⟨_,rfl⟩
 show ab3 4 (V.int (hi-lo+1)) _ _ _
 rw[←eW]
 have e18:∀z∈([5,4,8,W,W,99,8,W,W,99,8,W,W,99,8,W,W,99]:List Int),0<z/\z<1073741824:=fun z hz=>by
  simp only[List.mem_cons,List.not_mem_nil,or_false] at hz
  omega
 refine⟨_,rfl,(by show 2<=sizeLine;decide),fun x1 n1=>⟨_,rfl,_,rfl,(by show 4<=sizeLine;decide),fun x2 n2=>⟨x2,4,_,rfl,rfl,aaA,(by decide),(by decide),(by show 4*4<=sizeLine;decide),fun x3 n3=>⟨x1,x3,_,_,rfl,rfl,(aaB n3 _) _ _ ((aaB n2 _) _ _ aaA),aaA,(by show 2+16<=sizeLine;decide),fun ls hls=>⟨_,rfl,c,ls,bm,[5,4,8,W,W,99,8,W,W,99,8,W,W,99,8,W,W,99],rfl,SqL.of aaA,e18,(by show 18<=63;decide),fun ds p H3 s3 hp hd=>?_⟩⟩⟩⟩⟩
 obtain⟨d0,d1,d2,d3,d4,d5,d6,d7,d8,d9,d10,d11,d12,d13,d14,d15,d16,d17,rfl,k0,k1,k2,k6,k10,k14⟩:∃d0 d1 d2 d3 d4 d5 d6 d7 d8 d9 d10 d11 d12 d13 d14 d15 d16 d17:Int,ds=[d0,d1,d2,d3,d4,d5,d6,d7,d8,d9,d10,d11,d12,d13,d14,d15,d16,d17]/\(0<=d0/\d0<5)/\(0<=d1/\d1<4)/\(0<=d2/\d2<8)/\(0<=d6/\d6<8)/\(0<=d10/\d10<8)/\(0<=d14/\d14<8):=by cases hd with | cons g0 r0=>cases r0 with | cons g1 r1=>cases r1 with | cons g2 r2=>cases r2 with | cons g3 r3=>cases r3 with | cons g4 r4=>cases r4 with | cons g5 r5=>cases r5 with | cons g6 r6=>cases r6 with | cons g7 r7=>cases r7 with | cons g8 r8=>cases r8 with | cons g9 r9=>cases r9 with | cons g10 r10=>cases r10 with | cons g11 r11=>cases r11 with | cons g12 r12=>cases r12 with | cons g13 r13=>cases r13 with | cons g14 r14=>cases r14 with | cons g15 r15=>cases r15 with | cons g16 r16=>cases r16 with | cons g17 r17=>cases r17;exact⟨_,_,_,_,_,_,_,_,_,_,_,_,_,_,_,_,_,_,rfl,g0,g1,g2,g6,g10,g14⟩
 have s13:Same H H3:=(aaB n1 _).trans ((aaB n2 _).trans ((aaB n3 _).trans ((aaB hls _).trans s3)))
 refine⟨_,rfl,p,_,_,_,rfl,rfl,SqL.of hp,rfl,rfl,_,rfl,ifI (fun c0=>?star) (fun c0=>?more)⟩
 case star=>
  have n2':=adA (a:=lo) (b:=hi) (s:=1) hb.1 (by omega) (by decide)
  have r2:=afN (a:=lo) (b:=hi) (s:=1) (lo:=lo) (hi:=hi) hb.1 (by omega) (by omega) (by decide) (Int.le_refl _) (Int.le_refl _)
  refine⟨_,rfl,_,rfl,_,_,rfl,rfl,_,_,rfl,fun r hr=>⟨r,lo,hi+1,1,(Builtin.Range.rangeSize lo (hi+1) 1).toNat,rfl,aaA,acX hb.1 (by omega) (by omega) (by omega) (by decide) (by decide),n2'.2,(by have:=n2'.1;omega),fun u hu=>⟨u,acI lo hi 1,rfl,SqL.of (by rw[ab4,List.map_map];exact aaA),(by have:=r2.2.2;omega),(fun n hn=>by have:=r2.1 n hn;omega),fun zs H5 hpw hmem s5=>⟨(by show 2<=sizeLine;decide),fun t ht=>?_⟩⟩⟩⟩
  refine q t [42] (abV zs) _ (s13.trans ((aaB hr _).trans ((aaB hu _).trans (s5.trans (aaB ht _))))) aaA ?_ (by rw[aeH hpw hmem (fun n hn=>by have:=r2.1 n hn;omega)];exact⟨aeJ r2.2.1 (fun n hn=>by have:=r2.1 n hn;omega),ajA fun n hn=>by have:=r2.1 n hn;omega⟩)
  rw[aeH hpw hmem (fun n hn=>by have:=r2.1 n hn;omega),show aa3 (acI lo hi 1)=aa3 [acI lo hi 1].flatten by simp]
  exact apU (ws:=[[42]]) (.cons (i0 hb.1 (by omega) (by omega)) .nil) (List.cons_ne_nil _ _) (by decide)
 case more=>
  refine⟨(by show 0<=sizeLine;decide),fun T hT=>⟨(by show 0<=sizeLine;decide),fun N0 hN0=>?_⟩⟩
  have s1:=(aaB hT (.lst [])).trans (aaB hN0 (.lst []))
  have hTN:T≠N0:=fun e=>by rw[←e,aaA] at hN0;cases hN0
  refine⟨_,rfl,p,_,_,_,rfl,rfl,SqL.of (s1 _ _ hp),rfl,_,_,rfl,rfl,_,rfl,?lo,?hi,aeI (fun i σ H2=>∃(v8 v9 v10 v11 v12 v13 v14:Option V) (N:Addr) (ws:List (List Nat)) (nss:List (List Int)),σ=[some (.int c),some (.int lo),some (.int hi),some (.bl bm),some (.int W),some (.ref p),some (.ref T),some (.ref N),v8,v9,v10,v11,v12,v13,v14]/\T≠N/\Same H3 H2/\H2 T=some (.lst (ws.map fun x=>V.str (Tx x)))/\H2 N=some (.lst (nss.flatten.map V.int))/\Paired (adG lo hi) ws nss/\ws.length=i) ⟨_,_,_,_,_,_,_,N0,[],[],rfl,hTN,s1,by rw[aaG hTN];exact aaA,aaA,.nil,rfl⟩ ?turn ?done⟩
  case lo=>omega
  case hi=>omega
  case turn=>
   rintro i σ H2 hi' ⟨v8,v9,v10,v11,v12,v13,v14,N,ws,nss,rfl,tn,s2p,h2,h3,hP,lw⟩
   obtain⟨w1,w2,w3,w4,ec,hw⟩:∃w1 w2 w3 w4:Int,ahZ ([d0,d1,d2,d3,d4,d5,d6,d7,d8,d9,d10,d11,d12,d13,d14,d15,d16,d17].map V.int) (some (2+4*(0+(i:Int)))) (some (6+4*(0+(i:Int))))=[.int w1,.int w2,.int w3,.int w4]/\0<=w1/\w1<8:=by
    match i,(show i<4 by omega) with
    |0,_=>exact⟨d2,d3,d4,d5,rfl,k2⟩
    |1,_=>exact⟨d6,d7,d8,d9,rfl,k6⟩
    |2,_=>exact⟨d10,d11,d12,d13,rfl,k10⟩
    |3,_=>exact⟨d14,d15,d16,d17,rfl,k14⟩
   refine⟨_,rfl,_,rfl,_,_,rfl,rfl,.inl ⟨by decide,by decide⟩,_,_,rfl,rfl,_,rfl,_,rfl,_,_,rfl,rfl,.inl ⟨by decide,by decide⟩,_,_,rfl,rfl,_,rfl,p,_,rfl,SqL.of (s2p _ _ hp),fun pc hpc=>?_⟩
   rw[ec]
   have s5:=aaB hpc (.lst [V.int w1,V.int w2,V.int w3,V.int w4])
   refine⟨pc,_,rfl,SqL.of aaA,rfl,_,_,rfl,_,_,rfl,_,_,rfl,_,_,rfl,rfl,?_⟩
   refine⟨_,rfl,_,rfl,_,rfl,_,rfl,_,rfl,_,rfl,(by show 2<=sizeLine;decide),fun tb htb=>⟨tb,w1,w2,w3,w4,lo,hi,rfl,SqT.of aaA,⟨hb.1,by omega,by omega⟩,fun t u tw ns H6 s6 ht hu it h42=>?_⟩⟩
   have s26:Same H2 H6:=s5.trans ((aaB htb _).trans s6)
   refine⟨t,_,rfl,SqT.of ht,rfl,_,_,rfl,_,_,rfl,rfl,?_⟩
   have hT6:H6 T=some (.lst (ws.map fun x=>V.str (Tx x))):=s26 _ _ h2
   have hN6:H6 N=some (.lst (nss.flatten.map V.int)):=s26 _ _ h3
   have ia:=ac2 hP
   refine⟨_,rfl,.inl ⟨rfl,_,SqL.of hT6⟩,_,rfl,T,_,_,rfl,rfl,hT6,(by rw[List.length_map,sizeLine_eq];omega),?_⟩
   have hne2:u≠T:=fun e=>by
    rw[e,hT6] at hu
    have hz:=it.2.2.2.1
    cases ws with
    |nil=>cases ns with
     |nil=>exact hz rfl
     |cons x y=>cases hu
    |cons x y=>cases ns with
     |nil=>exact hz rfl
     |cons x' y'=>cases hu
   refine⟨_,rfl,_,rfl,N,u,_,_,rfl,rfl,SqL.of (by rw[aaG (Ne.symm tn)];exact hN6),SqL.of (by rw[aaG hne2];exact hu),(by rw[List.length_map,List.length_map,sizeLine_eq];have:=it.2.2.2.2;omega),fun N' hN'=>?_⟩
   have hN'T:T≠N':=fun e=>by rw[←e,aaA] at hN';cases hN'
   refine⟨_,_,_,_,_,_,_,N',ws++[tw],nss++[ns],rfl,hN'T,?_,?_,?_,ahG hP it,by rw[List.length_append,List.length_singleton,lw]⟩
   ·exact (acE hT (s2p.trans s26)).trans (aaB hN' _)
   ·rw[aaG hN'T,List.map_append]
    exact aaA
   ·rw[List.flatten_append,List.flatten_singleton,List.map_append]
    exact aaA
  case done=>
   rintro σ H2 ⟨v8,v9,v10,v11,v12,v13,v14,N,ws,nss,rfl,tn,s2p,h2,h3,hP,lw⟩
   have ia:=ac2 hP
   have hlen:=ad7 ws fun x hx=>(ia.1 x hx).2.2
   have hne:ws≠[]:=fun e=>by rw[e] at lw;simp at lw;omega
   refine⟨rfl,_,rfl,44,T,ws,rfl,rfl,SqL.of h2,(by omega),_,rfl,N,nss.flatten,rfl,SqL.of h3,(by have:=ia.2.2;omega),(fun n hn=>by have:=ia.2.1 n hn;omega),fun zs H5 hpw hmem s5=>⟨(by show 2<=sizeLine;decide),fun t ht=>?_⟩⟩
   refine q t _ (abV zs) _ (s13.trans (s2p.trans (s5.trans (aaB ht _)))) aaA ?_ (by rw[aeH hpw hmem (fun n hn=>by have:=ia.2.1 n hn;omega)];exact⟨aeJ (ayT hP hne) (fun n hn=>by have:=ia.2.1 n hn;omega),ajA fun n hn=>by have:=ia.2.1 n hn;omega⟩)
   rw[aeH hpw hmem (fun n hn=>by have:=ia.2.1 n hn;omega)]
   exact apU hP hne (by omega)
theorem acK:Df P w K mg base "_law_day_field" 3 ["_law_cell","_law_week","_law_mixed"] (afY K):=by
 refine ZZ.F__law_day_field.dfs sc__law_day_field (fun vs H Q E h=>?_) (fun f cdv A outer s H vs Q E hr h=>?_)
 ·obtain⟨c,b,bm,rfl,q⟩:=h
  rfl
 obtain⟨c,b,bm,rfl,q⟩:=h
 refine⟨_,(ssC (aaI 3 (eD (acH ZZ) hr (aC (v_ 0) (aC (eOp aBC (abW (aC eI (aC eI aN))) (eOp aDU (abW (axJ [16,31,31,99])) eI)) (aC (v_ 2) aN)))) sc__law_day_field.nd)
   (ssC (sIf (tCm oEq (eIx xL (v_ 3) eI) eI) (ss1 (aaF (aa5 (aC (eSx [42]) (aC eN aN))))) ssN)
   (ssC (aaI 4 (abW aN) sc__law_day_field.nd)
   (ssC (aaI 5 (abW aN) sc__law_day_field.nd)
   (ssC (afK (iR1 ZZ.z_range (aC (eOp aaL eI (eIx xL (v_ 3) eI)) aN)) (gN 6 sc__law_day_field.nd) (ssC (af4 (eD (anE ZZ) hr (aC (eSl slL (v_ 3) (poS (eOp aaL eI (eOp acS eI (v_ 6)))) (poS (eOp aaL eI (eOp acS eI (v_ 6))))) (aC (v_ 1) aN))) (gTu (gsC (gN 7 sc__law_day_field.nd) (gsC (gN 8 sc__law_day_field.nd) gsN))))
   (ssC (atZ (atK (v_ 4) (v_ 7)))
   (ss1 (atZ (atK (v_ 5) (v_ 8)))))) PassesOwn.never)
   (ss1 (aaF (aa5 (aC (auB (eSx [44]) (v_ 4)) (aC (v_ 5) aN)))))))))),?_⟩
 have e18:∀z∈([3,4,16,31,31,99,16,31,31,99,16,31,31,99,16,31,31,99]:List Int),0<z/\z<1073741824:=by decide +kernel
 refine⟨_,rfl,(by show 2<=sizeLine;decide),fun x1 n1=>⟨(by show 4<=sizeLine;decide),fun x2 n2=>⟨x2,4,_,rfl,rfl,aaA,(by decide),(by decide),(by show 4*4<=sizeLine;decide),fun x3 n3=>⟨x1,x3,_,_,rfl,rfl,(aaB n3 _) _ _ ((aaB n2 _) _ _ aaA),aaA,(by show 2+16<=sizeLine;decide),fun ls hls=>⟨_,rfl,c,ls,bm,[3,4,16,31,31,99,16,31,31,99,16,31,31,99,16,31,31,99],rfl,SqL.of aaA,e18,(by show 18<=63;decide),fun ds p H3 s3 hp hd=>?_⟩⟩⟩⟩⟩
 obtain⟨d0,d1,d2,d3,d4,d5,d6,d7,d8,d9,d10,d11,d12,d13,d14,d15,d16,d17,rfl,k0,k1,k2,k6,k10,k14⟩:∃d0 d1 d2 d3 d4 d5 d6 d7 d8 d9 d10 d11 d12 d13 d14 d15 d16 d17:Int,ds=[d0,d1,d2,d3,d4,d5,d6,d7,d8,d9,d10,d11,d12,d13,d14,d15,d16,d17]/\(0<=d0/\d0<3)/\(0<=d1/\d1<4)/\(0<=d2/\d2<16)/\(0<=d6/\d6<16)/\(0<=d10/\d10<16)/\(0<=d14/\d14<16):=by cases hd with | cons g0 r0=>cases r0 with | cons g1 r1=>cases r1 with | cons g2 r2=>cases r2 with | cons g3 r3=>cases r3 with | cons g4 r4=>cases r4 with | cons g5 r5=>cases r5 with | cons g6 r6=>cases r6 with | cons g7 r7=>cases r7 with | cons g8 r8=>cases r8 with | cons g9 r9=>cases r9 with | cons g10 r10=>cases r10 with | cons g11 r11=>cases r11 with | cons g12 r12=>cases r12 with | cons g13 r13=>cases r13 with | cons g14 r14=>cases r14 with | cons g15 r15=>cases r15 with | cons g16 r16=>cases r16 with | cons g17 r17=>cases r17;exact⟨_,_,_,_,_,_,_,_,_,_,_,_,_,_,_,_,_,_,rfl,g0,g1,g2,g6,g10,g14⟩
 have s13:Same H H3:=(aaB n1 _).trans ((aaB n2 _).trans ((aaB n3 _).trans ((aaB hls _).trans s3)))
 refine⟨_,rfl,p,_,_,_,rfl,rfl,SqL.of hp,rfl,rfl,_,rfl,ifI (fun c0=>?star) (fun c0=>?more)⟩
 case star=>exact⟨(by show 2<=sizeLine;decide),fun t ht=>q t [42] .non none _ (s13.trans (aaB ht _)) aaA rfl (aAD b)⟩
 case more=>
  refine⟨(by show 0<=sizeLine;decide),fun T hT=>⟨(by show 0<=sizeLine;decide),fun S hSn=>?_⟩⟩
  have s1:=(aaB hT (.lst [])).trans (aaB hSn (.lst []))
  have hTS:T≠S:=fun e=>by rw[←e,aaA] at hSn;cases hSn
  have hSn':H3 S=none:=by rw[aaG (Ne.symm hTS)] at hSn;exact hSn
  refine⟨_,rfl,p,_,_,_,rfl,rfl,SqL.of (s1 _ _ hp),rfl,_,_,rfl,rfl,_,rfl,?lo,?hi,aeI (fun i σ H2=>∃(v6 v7 v8:Option V) (ws:List (List Nat)) (us:List Addr) (ks:List Mk),σ=[some (.int c),some (.bl b),some (.bl bm),some (.ref p),some (.ref T),some (.ref S),v6,v7,v8]/\Same H3 H2/\H2 T=some (.lst (ws.map fun x=>V.str (Tx x)))/\H2 S=some (.lst (us.map V.ref))/\Ft (TpAt b H2) us ks/\Ws b ws ks/\(∀w∈ws,w≠[42])/\ws.length=i/\us.length=i) ⟨_,_,_,[],[],[],rfl,s1,by rw[aaG hTS];exact aaA,aaA,.nil,.nil,(fun w hw=>nomatch hw),rfl,rfl⟩ ?turn ?done⟩
  case lo=>omega
  case hi=>omega
  case turn=>
   rintro i σ H2 hi ⟨v6,v7,v8,ws,us,ks,rfl,s2p,h2,h3,fT,hW,n42',lw,lu⟩
   obtain⟨w1,w2,w3,w4,ec,hw⟩:∃w1 w2 w3 w4:Int,ahZ ([d0,d1,d2,d3,d4,d5,d6,d7,d8,d9,d10,d11,d12,d13,d14,d15,d16,d17].map V.int) (some (2+4*(0+(i:Int)))) (some (6+4*(0+(i:Int))))=[.int w1,.int w2,.int w3,.int w4]/\0<=w1/\w1<16:=by
    match i,(show i<4 by omega) with
    |0,_=>exact⟨d2,d3,d4,d5,rfl,k2⟩
    |1,_=>exact⟨d6,d7,d8,d9,rfl,k6⟩
    |2,_=>exact⟨d10,d11,d12,d13,rfl,k10⟩
    |3,_=>exact⟨d14,d15,d16,d17,rfl,k14⟩
   refine⟨_,rfl,_,rfl,_,_,rfl,rfl,.inl ⟨by decide,by decide⟩,_,_,rfl,rfl,_,rfl,_,rfl,_,_,rfl,rfl,.inl ⟨by decide,by decide⟩,_,_,rfl,rfl,_,rfl,p,_,rfl,SqL.of (s2p _ _ hp),fun pc hpc=>?_⟩
   rw[ec]
   have s5:=aaB hpc (.lst [V.int w1,V.int w2,V.int w3,V.int w4])
   refine⟨_,rfl,pc,b,w1,w2,w3,w4,rfl,SqL.of aaA,hw,fun t u tw k H6 s6 ht hu hok hsp hwk hST hCl h42=>?_⟩
   have s26:Same H2 H6:=s5.trans s6
   refine⟨t,_,rfl,SqT.of ht,rfl,_,_,rfl,_,_,rfl,rfl,?_⟩
   have hT6:H6 T=some (.lst (ws.map fun x=>V.str (Tx x))):=s26 _ _ h2
   have hS6:H6 S=some (.lst (us.map V.ref)):=s26 _ _ h3
   refine⟨_,rfl,.inl ⟨rfl,_,SqL.of hT6⟩,_,rfl,T,_,_,rfl,rfl,hT6,(by rw[List.length_map,sizeLine_eq];omega),?_⟩
   have hS7:(upd H6 T (.lst ((ws.map fun x=>V.str (Tx x))++[.str (Tx tw)]))) S=some (.lst (us.map V.ref)):=by rw[aaG (Ne.symm hTS)];exact hS6
   refine⟨_,rfl,.inl ⟨rfl,_,SqL.of hS7⟩,_,rfl,S,_,_,rfl,rfl,hS7,(by rw[List.length_map,sizeLine_eq];omega),?_⟩
   have kp:=(ad5 (l':=(ws.map fun x=>V.str (Tx x))++[.str (Tx tw)]) hT6).trans (ad5 (l':=us.map V.ref++[.ref u]) hS7)
   refine⟨_,_,_,ws++[tw],us++[u],ks++[k],rfl,acE hSn' (acE hT (s2p.trans s26)),?_,(by rw[List.map_append];exact aaA),Ft.app ((fT.keepT s26.keep).keepT kp) (.cons ⟨kp.tup hu,hsp,hwk,hok⟩ .nil),aw4 hW ⟨hCl,hST⟩,(fun w hw=>(List.mem_append.mp hw).elim (n42' w) fun z=>by rw[List.mem_singleton.mp z];exact h42),(by rw[List.length_append,List.length_singleton,lw]),(by rw[List.length_append,List.length_singleton,lu])⟩
   rw[aaG hTS,List.map_append]
   exact aaA
  case done=>
   rintro σ H2 ⟨v6,v7,v8,ws,us,ks,rfl,s2p,h2,h3,fT,hW,n42',lw,lu⟩
   have hlen:=ad7 ws fun x hx=>(hW.cl x hx).2.2
   have hne:ws≠[]:=fun e=>by rw[e] at lw;simp at lw;omega
   refine⟨rfl,_,rfl,44,T,ws,rfl,rfl,SqL.of h2,(by omega),_,rfl,(by show 2<=sizeLine;decide),fun t ht=>?_⟩
   have sE:=aaB ht (.tup [V.str (Tx (aaT 44 ws)),V.ref S])
   exact q t _ (.ref S) (some ks) _ (s13.trans (s2p.trans sE)) aaA ⟨S,us,rfl,sE _ _ h3,fT.keepT sE.keep⟩ (aL0 hW hne (by omega) n42' fT.okT)
theorem ah0:Df P w K mg base "_law_days_in" 4 ["_law_row_here","_law_month","_law_last_here","_law_first_here"] (aiF K):=by
 refine ZZ.F__law_days_in.dfs sc__law_days_in (fun vs H Q E h=>?_) (fun f cdv A outer s H vs Q E hr h=>?_)
 ·obtain⟨r,mn,l,fi,m0,m1,m3,v2,v4,kd,kw,rfl,hr_,hd,hw,hm,hmn,hlf,q⟩:=h
  rfl
 obtain⟨r,mn,l,fi,m0,m1,m3,v2,v4,kd,kw,rfl,hr_,hd,hw,hm,hmn,hlf,q⟩:=h
 refine⟨_,(ssC (sIf (tCm oEq (eOp ah2 (eOp aj2 (eIx xL (v_ 0) eI) (v_ 1)) eI) eI) (ss1 (aaF eI)) ssN)
   (ssC (sIf (tW (aoA (tCm aeA (eIx xL (v_ 0) eI) eN) (ajO (tCm aeA (eIx xL (v_ 0) eI) eN)))) (ss1 (aaF (eOp aa9 (eOp afE eI (eOp aaL (v_ 2) eI)) eI))) ssN)
   (ssC (aaI 4 eI sc__law_days_in.nd)
   (ssC (afK (iT (aa5 (aC (aa5 (aC (eIx xL (v_ 0) eI) (aC eB aN))) (aC (aa5 (aC (eIx xL (v_ 0) eI) (aC eB aN))) aN)))) (gTu (gsC (gN 5 sc__law_days_in.nd) (gsC (gN 6 sc__law_days_in.nd) gsN))) (ss1 (sIf (tCm aEA (v_ 5) eN) (ss1 (afK (iL (v_ 5)) (gN 7 sc__law_days_in.nd) (ss1 (aaI 4 (eOp oOr (v_ 4) (eD (am2 ZZ) hr (aC (v_ 7) (aC (v_ 2) (aC (v_ 3) (aC (v_ 6) aN)))))) sc__law_days_in.nd)) PassesOwn.never)) ssN)) PassesOwn.never)
   (ss1 (aaF (v_ 4))))))),?_⟩
 refine⟨_,rfl,r,_,_,_,rfl,rfl,SqL.of hr_,rfl,_,rfl,_,_,rfl,rfl,(by show (0:Int)<=mn;omega),_,_,rfl,rfl,rfl,_,rfl,ifI (fun c=>?_) (fun c=>?_)⟩
 ·rw[if_neg (by rw[(afL hm _).mp c];exact Bool.false_ne_true)] at q
  exact q H (Same.refl _)
 have ct:tb m3 mn.toNat=true:=by
  cases e:tb m3 mn.toNat
  ·exact absurd ((afL hm _).mpr e) c
  ·rfl
 rw[if_pos ct] at q
 by_cases hk:kd.isNone=true/\kw.isNone=true
 ·have ev:v2=.non:=by
   cases kd with
   |none=>exact hd
   |some ks=>cases hk.1
  have ew:v4=.non:=by
   cases kw with
   |none=>exact hw
   |some ks=>cases hk.2
  refine⟨_,rfl,r,_,_,_,rfl,rfl,SqL.of hr_,rfl,rfl,_,rfl,?_⟩
  rw[decide_eq_true ev]
  refine aa8 ⟨_,rfl,r,_,_,_,rfl,rfl,SqL.of hr_,rfl,rfl,_,rfl,?_⟩
  rw[decide_eq_true ew]
  have e2:abJ kd kw l fi=1*2^(l+1).toNat-2:=by
   unfold abJ
   rw[if_pos hk,show (l+1).toNat=l.toNat+1 by have:=hlf.1.1;omega,Int.pow_succ]
   omega
  rw[e2] at q
  have:=hlf.1
  exact aa8 ⟨_,rfl,_,_,rfl,rfl,_,_,rfl,rfl,⟨by omega,by omega,by decide⟩,_,_,rfl,rfl,q H (Same.refl _)⟩
 ·have e3:abJ kd kw l fi=orO kw (orO kd 0 l fi) l fi:=by unfold abJ;rw[if_neg hk]
  rw[e3] at q
  refine⟨_,rfl,r,_,_,_,rfl,rfl,SqL.of hr_,rfl,rfl,_,rfl,iteB ?B fun hB hc=>⟨_,rfl,r,_,_,_,rfl,rfl,SqL.of hr_,rfl,rfl,_,rfl,?T⟩⟩
  case T=>
   have ew:decide (v4=.non)=false:=by
    cases kw with
    |none=>
     cases kd with
     |none=>exact absurd ⟨rfl,rfl⟩ hk
     |some ks=>obtain⟨_,_,rfl,_⟩:=hd;exact absurd (show false=true from hc) Bool.false_ne_true
    |some ks=>obtain⟨_,_,rfl,_⟩:=hw;rfl
   show if decide (v4=V.non)=true then _ else _
   rw[ew]
   exact aaU hB
  refine⟨_,rfl,r,_,_,_,rfl,rfl,SqL.of hr_,rfl,(by show 2<=sizeLine;decide),fun t1 ht1=>⟨_,rfl,r,_,_,_,rfl,rfl,SqL.of ((aaB ht1 _) _ _ hr_),rfl,(by show 2<=sizeLine;decide),fun t2 ht2=>⟨(by show 2<=sizeLine;decide),fun tt ht=>?_⟩⟩⟩
  have a1:=aaB ht1 (.tup [v2,V.bl false])
  have a2:=aaB ht2 (.tup [v4,V.bl true])
  have a3:=aaB ht (.tup [V.ref t1,V.ref t2])
  refine⟨tt,rfl,⟨_,SqT.of aaA⟩,aiR (K:=K) (a:=tt) (xs:=[.ref t1,.ref t2]) (fun i σ H2=>∃v5 v6 v7:Option V,σ=[some (.ref r),some (.int mn),some (.int l),some (.int fi),some (.int (match i with | 0=>0 | 1=>orO kd 0 l fi | _=>orO kw (orO kd 0 l fi) l fi)),v5,v6,v7]/\Same (upd (upd (upd H t1 (.tup [v2,V.bl false])) t2 (.tup [v4,V.bl true])) tt (.tup [V.ref t1,V.ref t2])) H2) ⟨_,_,_,rfl,Same.refl _⟩ (fun i σ H2 _ ⟨_,_,_,_,s2⟩=>SqT.of (s2 _ _ aaA)) ?turn ?done⟩
  case done=>
   rintro σ H2 ⟨v5,v6,v7,rfl,s2⟩
   exact⟨_,rfl,q H2 (a1.trans (a2.trans (a3.trans s2)))⟩
  case turn=>
   rintro i x σ H2 hx ⟨v5,v6,v7,rfl,s2⟩
   have sA:=a1.trans (a2.trans (a3.trans s2))
   match i,hx with
   |0,hx=>
    cases hx
    refine⟨t1,_,rfl,SqT.of (s2 _ _ (a3 _ _ (a2 _ _ aaA))),rfl,_,_,rfl,_,_,rfl,rfl,?_⟩
    cases kd with
    |none=>
     have ev:v2=.non:=hd
     subst ev
     refine⟨_,rfl,rfl,_,rfl,?_⟩
     show if (!decide (V.non=V.non))=true then _ else _
     rw[decide_eq_true rfl]
     exact aaU ⟨_,_,_,rfl,s2⟩
    |some ks=>
     obtain⟨pl,us,rfl,hl,fT⟩:=hd
     have okT:=fT.okT
     have lk:us.length=ks.length:=Paired.length fT
     refine⟨_,rfl,rfl,_,rfl,aa8 ⟨_,rfl,pl,rfl,⟨_,SqL.of (sA _ _ hl)⟩,abS (K:=K) (a:=pl) (xs:=us.map V.ref) (fun j σ H4=>∃v7:Option V,σ=[some (.ref r),some (.int mn),some (.int l),some (.int fi),some (.int (Builtin.bitOr 0 (orK (ks.take j) l fi))),some (.ref pl),some (.bl false),v7]/\Same H2 H4) ⟨v7,by rw[show orK (ks.take 0) l fi=0 from rfl,aNR (Int.le_refl 0)]<;>rfl,Same.refl _⟩ (fun j σ H4 _ ⟨_,_,s4⟩=>SqL.of ((sA.trans s4) _ _ hl)) ?tnfalse ?dnfalse⟩⟩
     case dnfalse=>
      rintro σ H4 ⟨v7,rfl,s4⟩
      rw[List.length_map,lk,List.take_length]
      exact⟨_,_,_,rfl,s2.trans s4⟩
     case tnfalse=>
      rintro j x σ H4 hx ⟨v7,rfl,s4⟩
      rw[List.getElem?_map] at hx
      cases ez:us[j]? with
      |none=>rw[ez] at hx;cases hx
      |some u=>
       rw[ez] at hx
       obtain rfl:V.ref u=x:=Option.some.inj hx
       obtain⟨k,ek,hk⟩:=Ft.get fT ez
       obtain⟨hu,hsp,hwk,hok⟩:=hk
       refine⟨_,rfl,_,rfl,_,rfl,_,rfl,_,rfl,u,k,l,fi,(by rw[hwk];rfl),(sA.trans s4) _ _ hu,hok,hsp,hlf,fun H5 s5=>⟨_,_,rfl,rfl,some (.ref u),?_,s4.trans s5⟩⟩
       rw[←ao0 hlf (fun z hz=>(okT z hz).2.2) ek (Int.le_refl 0)]
       rfl
   |1,hx=>
    cases hx
    refine⟨t2,_,rfl,SqT.of (s2 _ _ (a3 _ _ aaA)),rfl,_,_,rfl,_,_,rfl,rfl,?_⟩
    have nn:0<=orO kd 0 l fi:=aqM (b:=false) hlf (fun ks e k hmem=>by subst e;obtain⟨_,us,_,_,fT⟩:=hd;exact (fT.okT k hmem).2.2) (Int.le_refl 0)
    cases kw with
    |none=>
     have ev:v4=.non:=hw
     subst ev
     refine⟨_,rfl,rfl,_,rfl,?_⟩
     show if (!decide (V.non=V.non))=true then _ else _
     rw[decide_eq_true rfl]
     exact aaU ⟨_,_,_,rfl,s2⟩
    |some ks=>
     obtain⟨pl,us,rfl,hl,fT⟩:=hw
     have okT:=fT.okT
     have lk:us.length=ks.length:=Paired.length fT
     refine⟨_,rfl,rfl,_,rfl,aa8 ⟨_,rfl,pl,rfl,⟨_,SqL.of (sA _ _ hl)⟩,abS (K:=K) (a:=pl) (xs:=us.map V.ref) (fun j σ H4=>∃v7:Option V,σ=[some (.ref r),some (.int mn),some (.int l),some (.int fi),some (.int (Builtin.bitOr (orO kd 0 l fi) (orK (ks.take j) l fi))),some (.ref pl),some (.bl true),v7]/\Same H2 H4) ⟨v7,by rw[show orK (ks.take 0) l fi=0 from rfl,aNR nn]<;>rfl,Same.refl _⟩ (fun j σ H4 _ ⟨_,_,s4⟩=>SqL.of ((sA.trans s4) _ _ hl)) ?tntrue ?dntrue⟩⟩
     case dntrue=>
      rintro σ H4 ⟨v7,rfl,s4⟩
      rw[List.length_map,lk,List.take_length]
      exact⟨_,_,_,rfl,s2.trans s4⟩
     case tntrue=>
      rintro j x σ H4 hx ⟨v7,rfl,s4⟩
      rw[List.getElem?_map] at hx
      cases ez:us[j]? with
      |none=>rw[ez] at hx;cases hx
      |some u=>
       rw[ez] at hx
       obtain rfl:V.ref u=x:=Option.some.inj hx
       obtain⟨k,ek,hk⟩:=Ft.get fT ez
       obtain⟨hu,hsp,hwk,hok⟩:=hk
       refine⟨_,rfl,_,rfl,_,rfl,_,rfl,_,rfl,u,k,l,fi,(by rw[hwk];rfl),(sA.trans s4) _ _ hu,hok,hsp,hlf,fun H5 s5=>⟨_,_,rfl,rfl,some (.ref u),?_,s4.trans s5⟩⟩
       rw[←ao0 hlf (fun z hz=>(okT z hz).2.2) ek nn]
       rfl
   |i+2,hx=>cases hx
theorem ahD:Df P w K mg base "_law_row" 4 ["_law_cells_here","_law_mixed"] (aoY K):=by
 refine ZZ.F__law_row.dfs sc__law_row (fun vs H Q E h=>?_) (fun f cdv A outer s H vs Q E hr h=>?_)
 ·obtain⟨a,c0,c1,c2,c3,c4,bm,rfl,hC,q⟩:=h
  rfl
 obtain⟨a,c0,c1,c2,c3,c4,bm,rfl,hC,q⟩:=h
 refine⟨_,(ssC (aaI 2 (eD (acQ ZZ) hr (aC (eIx xL (v_ 0) eI) (aC eI (aC eI (aC (v_ 1) aN))))) sc__law_row.nd)
   (ssC (aaI 3 (eD (acQ ZZ) hr (aC (eIx xL (v_ 0) eI) (aC eI (aC eI (aC (v_ 1) aN))))) sc__law_row.nd)
   (ssC (aaI 4 (eD (acK ZZ) hr (aC (eIx xL (v_ 0) eI) (aC eB (aC (v_ 1) aN)))) sc__law_row.nd)
   (ssC (aaI 5 (eD (acQ ZZ) hr (aC (eIx xL (v_ 0) eI) (aC eI (aC eI (aC (v_ 1) aN))))) sc__law_row.nd)
   (ssC (aaI 6 (eD (acK ZZ) hr (aC (eIx xL (v_ 0) eI) (aC eB (aC (v_ 1) aN)))) sc__law_row.nd)
   (ssC (aaI 7 (abW (aC (v_ 2) (aC (v_ 3) (aC (v_ 4) (aC (v_ 5) (aC (v_ 6) aN)))))) sc__law_row.nd)
   (ss1 (aaF (aa5 (aC (auB (eSx [32]) (acO [] [] (iL (v_ 7)) (fun _ _ _ _ _ _=>fsN) (fun _ _ _ _ _ _=>(eIx (xTc (K:=K)) (v_ 0) eI)))) (aC (acO [] [] (iL (v_ 7)) (fun _ _ _ _ _ _=>fsN) (fun _ _ _ _ _ _=>(eIx (xTc (K:=K)) (v_ 0) eI))) aN))))))))))),?_⟩
 refine⟨_,rfl,a,_,_,_,rfl,rfl,hC,rfl,_,rfl,c0,0,59,bm,rfl,⟨by decide,by decide,by decide⟩,fun t0 w0 m0 H1 s0 h0 f0 l0=>?_⟩
 have sA0:=s0
 refine⟨_,rfl,a,_,_,_,rfl,rfl,(sA0.seq hC),rfl,_,rfl,c1,0,23,bm,rfl,⟨by decide,by decide,by decide⟩,fun t1 w1 m1 H2 s1 h1 f1 l1=>?_⟩
 have sA1:=sA0.trans s1
 refine⟨_,rfl,a,_,_,_,rfl,rfl,(sA1.seq hC),rfl,_,rfl,c2,false,bm,rfl,fun t2 w2 v2 k2 H3 s2 h2 sv2 d2=>?_⟩
 have sA2:=sA1.trans s2
 refine⟨_,rfl,a,_,_,_,rfl,rfl,(sA2.seq hC),rfl,_,rfl,c3,1,12,bm,rfl,⟨by decide,by decide,by decide⟩,fun t3 w3 m3 H4 s3 h3 f3 l3=>?_⟩
 have sA3:=sA2.trans s3
 refine⟨_,rfl,a,_,_,_,rfl,rfl,(sA3.seq hC),rfl,_,rfl,c4,true,bm,rfl,fun t4 w4 v4 k4 H5 s4 h4 sv4 d4=>?_⟩
 have sA4:=sA3.trans s4
 refine⟨_,rfl,_,rfl,_,rfl,_,rfl,_,rfl,(by show 5<=sizeLine;decide),fun S hS=>?_⟩
 have sS:=aaB hS (.lst [V.ref t0,V.ref t1,V.ref t2,V.ref t3,V.ref t4])
 have g0:=(s1.trans (s2.trans (s3.trans (s4.trans sS)))) _ _ h0
 have g1:=(s2.trans (s3.trans (s4.trans sS))) _ _ h1
 have g2:=(s3.trans (s4.trans sS)) _ _ h2
 have g3:=(s4.trans sS) _ _ h3
 have g4:=sS _ _ h4
 refine⟨rfl,_,rfl,S,rfl,⟨_,SqL.of aaA⟩,acZ (xs:=[.ref t0,.ref t1,.ref t2,.ref t3,.ref t4]) (fun i z=>z=([w0,w1,w2,w3,w4].take i).map fun x=>V.str (Tx x)) (by show 5<=sizeLine;decide) rfl (SqL.of aaA) ?st ?dn⟩
 case st=>
  intro i v z D H7 E' F' hv hR hD s7 hz hE hF
  subst hR
  match i,hv with
  |0,hv=>cases hv;exact⟨_,rfl,t0,_,_,_,rfl,rfl,SqT.of (s7 _ _ g0),rfl,hE _ _ (Same.refl _) rfl⟩
  |1,hv=>cases hv;exact⟨_,rfl,t1,_,_,_,rfl,rfl,SqT.of (s7 _ _ g1),rfl,hE _ _ (Same.refl _) rfl⟩
  |2,hv=>cases hv;exact⟨_,rfl,t2,_,_,_,rfl,rfl,SqT.of (s7 _ _ g2),rfl,hE _ _ (Same.refl _) rfl⟩
  |3,hv=>cases hv;exact⟨_,rfl,t3,_,_,_,rfl,rfl,SqT.of (s7 _ _ g3),rfl,hE _ _ (Same.refl _) rfl⟩
  |4,hv=>cases hv;exact⟨_,rfl,t4,_,_,_,rfl,rfl,SqT.of (s7 _ _ g4),rfl,hE _ _ (Same.refl _) rfl⟩
  |i+5,hv=>cases hv
 case dn=>
  intro D H7 z hR hD s7 hz
  subst hR
  refine⟨32,D,[w0,w1,w2,w3,w4],rfl,rfl,SqL.of hz,?len,_,rfl,S,rfl,⟨_,SqL.of (s7 _ _ aaA)⟩,acZ (xs:=[.ref t0,.ref t1,.ref t2,.ref t3,.ref t4]) (fun i z=>z=[V.int m0,V.int m1,v2,V.int m3,v4].take i) (by show 5<=sizeLine;decide) rfl (SqL.of (s7 _ _ aaA)) ?st2 ?dn2⟩
  case len=>
   have:=f0.len
   have:=f1.len
   have:=f3.len
   have:=d2.2.1.len
   have:=d4.2.1.len
   show (w0++32::(w1++32::(w2++32::(w3++32::w4)))).length<=1000000
   simp only[List.length_append,List.length_cons]
   omega
  case st2=>
   intro i v z D2 H8 E' F' hv hR hD2 s8 hz2 hE hF
   subst hR
   match i,hv with
   |0,hv=>cases hv;exact⟨_,rfl,t0,_,_,_,rfl,rfl,SqT.of ((s7.trans s8) _ _ g0),rfl,hE _ _ (Same.refl _) rfl⟩
   |1,hv=>cases hv;exact⟨_,rfl,t1,_,_,_,rfl,rfl,SqT.of ((s7.trans s8) _ _ g1),rfl,hE _ _ (Same.refl _) rfl⟩
   |2,hv=>cases hv;exact⟨_,rfl,t2,_,_,_,rfl,rfl,SqT.of ((s7.trans s8) _ _ g2),rfl,hE _ _ (Same.refl _) rfl⟩
   |3,hv=>cases hv;exact⟨_,rfl,t3,_,_,_,rfl,rfl,SqT.of ((s7.trans s8) _ _ g3),rfl,hE _ _ (Same.refl _) rfl⟩
   |4,hv=>cases hv;exact⟨_,rfl,t4,_,_,_,rfl,rfl,SqT.of ((s7.trans s8) _ _ g4),rfl,hE _ _ (Same.refl _) rfl⟩
   |i+5,hv=>cases hv
  case dn2=>
   intro D2 H8 z hR hD2 s8 hz2
   subst hR
   refine⟨(by show 2<=sizeLine;decide),fun t ht=>?_⟩
   have sE:=aaB ht (.tup [V.str (Tx (aaT 32 [w0,w1,w2,w3,w4])),V.ref D2])
   have sT:=s7.trans (s8.trans sE)
   exact q t D2 w0 w1 w2 w3 w4 m0 m1 m3 v2 v4 k2 k4 _ (sA4.trans (sS.trans sT)) aaA (sE _ _ hz2) f0 f1 f3 d2 d4 (sv2.keep ((s3.trans (s4.trans sS)).trans sT)) (sv4.keep (sS.trans sT)) ⟨l0.1,l1.1⟩ ⟨l0.2,l1.2⟩
theorem ae1:Df P w K mg base "_law_cells" 2 ["_law_script","_law_at"] (akR K):=by
 refine ZZ.F__law_cells.dfs akX (fun vs H Q E h=>?_) (fun f cdv A outer s H vs Q E hr h=>?_)
 ·obtain⟨a,k,rfl,⟨ns,hS⟩,hk,q⟩:=h
  rfl
 obtain⟨a,k,rfl,⟨ns,hS⟩,hk,q⟩:=h
 refine⟨_,(ss1 (aaF (acO ["_law_script","_law_at"] [0,1] (iR1 ZZ.z_range (aC eI aN)) (fun _ _ _ _ _ _=>fsN) (fun _ _ _ _ _ _=>(eD (abX ZZ) hr (aC (v_ 1) (aC (eOp aaL (v_ 2) (v_ 0)) aN))))))),?_⟩
 refine⟨_,rfl,by decide,by decide,aa7 (fun i z=>∃cs:List Int,cs.length=i/\z=cs.map V.int) (by show 5<=sizeLine;decide) ⟨[],rfl,rfl⟩ ?st ?dn⟩
 case st=>
  rintro i z D H2 E' F' hi ⟨cs,hl,rfl⟩ hD s2 hz hE hF
  have hi':i<5:=hi
  exact⟨_,rfl,_,rfl,_,rfl,_,_,rfl,rfl,a,_,rfl,⟨ns,s2.seq hS⟩,⟨by omega,by omega⟩,fun c=>hE _ _ (Same.refl _) ⟨cs++[c],by rw[List.length_append,hl];rfl,by rw[List.map_append];rfl⟩⟩
 case dn=>
  rintro D H2 z ⟨cs,hl,rfl⟩ hD s2 hz
  match cs,hl with
  |[c0,c1,c2,c3,c4],_=>exact q D c0 c1 c2 c3 c4 H2 s2 hz
theorem aj5:DfM P w K mg base C_Row "shut_by" 7 ["self","moment"] (aj9 K C_Row C_Numbers C_Last C_Near C_LastWork C_Weekdays C_Nth C_LastOne C_Mark):=by
 refine ZZ.F_Row_shut_by.dfs sc_Row_shut_by (fun vs H Q E h=>?_) (fun f cdv A outer s H vs Q E hr h=>?_)
 ·obtain⟨p,dx,m0,m1,m3,tm,mo,dv,wv,kd,kw,rfl,hp,hn,hd,hw,q⟩:=h
  rfl
 obtain⟨p,dx,m0,m1,m3,tm,mo,dv,wv,kd,kw,rfl,hp,hn,hd,hw,q⟩:=h
 refine⟨_,(ssC (aaI 2 (eD (atV ZZ) hr (aC (v_ 1) aN)) sc_Row_shut_by.nd)
   (ssC (aaI 3 (eD (aqK ZZ) hr (aC (eIx xT (v_ 2) eI) aN)) sc_Row_shut_by.nd)
   (ssC (sIf (tNo (tVa (eD (agL ZZ) hr (aC (eFl (v_ 0)) (aC (eIx xT (v_ 3) eI) aN))))) (ss1 (aaF (eSx [109,111,110,116,104]))) ssN)
   (ssC (sIf (tNo (tVa (eD (agL ZZ) hr (aC (eMe ZZ.c_Row.cl (aj6 ZZ) hr (v_ 0) (aC (eD (apZ ZZ) hr (aC (eIx xT (v_ 3) eI) (aC (eIx xT (v_ 3) eI) aN))) aN)) (aC (eIx xT (v_ 3) eI) aN))))) (ss1 (aaF (eSx [100,97,121]))) ssN)
   (ssC (sIf (tNo (tVa (eD (agL ZZ) hr (aC (eFl (v_ 0)) (aC (eIx xT (v_ 2) eI) aN))))) (ss1 (aaF (eSx [104,111,117,114]))) ssN)
   (ssC (sIf (tNo (tVa (eD (agL ZZ) hr (aC (eFl (v_ 0)) (aC (eIx xT (v_ 2) eI) aN))))) (ss1 (aaF (eSx [109,105,110,117,116,101]))) ssN)
   (ss1 (aaF eN)))))))),?_⟩
 refine⟨_,rfl,mo,rfl,fun t H1 s1 h1=>⟨_,rfl,t,_,_,_,rfl,rfl,SqT.of (h1),rfl,_,rfl,fun y m k t2 H2 ok e s2 h2=>?_⟩⟩
 have s12:=s1.trans s2
 have hp2:=s12 _ _ hp
 have q':=q y m k
 refine⟨_,rfl,p,C_Row,dx,_,_,rfl,hp2,ZZ.c_Row.cl,ZZ.n_Row_month_mask,adM ..,_,rfl,t2,_,_,_,rfl,rfl,SqT.of (h2),rfl,m3,m,rfl,⟨hn.2.2,by have:=ok.1;omega⟩,_,rfl,?_⟩
 cases c1:tb m3 m.toNat with
 |false=>
  have z:=q' H2 ok e s12
  rw[sh1 c1] at z
  exact aa8 z
 |true=>
  have mk:=alZ (y:=y) ok.1.1 ok.1.2
  have kl:=asL (y:=y) ok.1.1 ok.1.2
  refine aaU ⟨_,rfl,p,dx,_,rfl,hp2,aiA ..,_,rfl,t2,_,_,_,rfl,rfl,SqT.of (h2),rfl,_,rfl,t2,_,_,_,rfl,rfl,SqT.of (h2),rfl,y,m,rfl,ok.1,fun H3 s3=>?_⟩
  refine⟨p,dx,m0,m1,m3,tm,kindOf y m,dv,wv,kd,kw,rfl,s3 _ _ hp2,kl,hn.2.2,hd.keep (s12.trans s3),hw.keep (s12.trans s3),fun H4 s4=>?_⟩
  rw[mk.1,mk.2,if_pos c1,aBX ok e]
  have s24:=s3.trans s4
  have sA:=s12.trans s24
  refine⟨_,rfl,t2,_,_,_,rfl,rfl,SqT.of (s24 _ _ h2),rfl,_,k,rfl,⟨apE (arU ok) (aDM hd) (aDM hw),by have:=ok.2.1;omega⟩,_,rfl,?_⟩
  cases c2:tb (abJ kd kw (aaE y m) ((mo / 1440-k+1+6)%7)) k.toNat with
  |false=>
   have z:=q' H4 ok e sA
   rw[sh2 c1 c2] at z
   exact aa8 z
  |true=>
   refine aaU ⟨_,rfl,p,C_Row,dx,_,_,rfl,s24 _ _ hp2,ZZ.c_Row.cl,ZZ.n_Row_hour_mask,ad2 ..,_,rfl,t,_,_,_,rfl,rfl,SqT.of ((s2.trans s24) _ _ h1),rfl,m1,_,rfl,⟨hn.2.1,by omega⟩,_,rfl,?_⟩
   cases c3:tb m1 (mo%1440 / 60).toNat with
   |false=>
    have z:=q' H4 ok e sA
    rw[sh3 c1 c2 c3] at z
    exact aa8 z
   |true=>
    refine aaU ⟨_,rfl,p,C_Row,dx,_,_,rfl,s24 _ _ hp2,ZZ.c_Row.cl,ZZ.n_Row_minute_mask,ac3 ..,_,rfl,t,_,_,_,rfl,rfl,SqT.of ((s2.trans s24) _ _ h1),rfl,m0,_,rfl,⟨hn.1,by omega⟩,_,rfl,?_⟩
    cases c4:tb m0 (mo%1440%60).toNat with
    |false=>
     have z:=q' H4 ok e sA
     rw[sh4 c1 c2 c3 c4] at z
     exact aa8 z
    |true=>
     have z:=q' H4 ok e sA
     rw[sh5 c1 c2 c3 c4] at z
     exact aaU z
theorem amT:Df P w K mg base "_law_long" 1 ["_law_year"] (anR K):=by
 refine ZZ.F__law_long.dfs amO (fun vs H Q E h=>?_) (fun f cdv A outer s H vs Q E hr h=>?_)
 ·obtain⟨y,rfl,q⟩:=h
  rfl
 obtain⟨y,rfl,q⟩:=h
 refine⟨_,(ss1 (aaF (aqP (adF oEq (eOp aaW (v_ 0) eI) eI) (ajK (eOr (adF oNe (eOp aaW (v_ 0) eI) eI) (ajK (adF oEq (eOp aaW (v_ 0) eI) eI))))))),?_⟩
 refine⟨_,rfl,_,_,rfl,rfl,(by show (0:Int)<4;decide),rfl,_,rfl,?_⟩
 refine ifI (fun c1=>?_) (fun c1=>?_)
 ·refine⟨_,rfl,_,_,rfl,rfl,(by show (0:Int)<100;decide),rfl,_,rfl,?_⟩
  refine aLO (fun c2=>?_) (fun c2=>?_)
  ·rw[agB ⟨c1,.inl c2⟩] at q
   exact q
  ·refine⟨_,rfl,_,_,rfl,rfl,(by show (0:Int)<400;decide),rfl,?_⟩
   by_cases c3:y%400=0
   ·rw[agB ⟨c1,.inr c3⟩] at q
    show Q (.bl (decide (V.int (y%400)=V.int 0))) H
    rw[decide_eq_true (int_eq.mpr c3)]
    exact q
   ·rw[afX (by omega)] at q
    show Q (.bl (decide (V.int (y%400)=V.int 0))) H
    rw[decide_eq_false fun e=>c3 (int_eq.mp e)]
    exact q
 ·rw[afX (by omega)] at q
  exact q
theorem ab6:Df P w K mg base "_law_before" 1 ["_law_year"] (ai7 K):=by
 refine ZZ.F__law_before.dfs aj3 (fun vs H Q E h=>?_) (fun f cdv A outer s H vs Q E hr h=>?_)
 ·obtain⟨y,rfl,q⟩:=h
  rfl
 obtain⟨y,rfl,q⟩:=h
 refine⟨_,(ss1 (aaF (eOp aaL (eOp aa9 (eOp aaL (eOp acS eI (v_ 0)) (eOp afQ (eOp aaL (v_ 0) eI) eI)) (eOp afQ (eOp aaL (v_ 0) eI) eI)) (eOp afQ (eOp aaL (v_ 0) eI) eI)))),?_⟩
 have e:db y=365*y+(y+3) / 4-(y+99) / 100+(y+399) / 400:=by rw[alM];omega
 rw[e] at q
 exact⟨_,rfl,_,_,rfl,rfl,.inl ⟨by decide,by decide⟩,_,rfl,_,_,rfl,rfl,_,_,rfl,rfl,⟨by decide,by decide⟩,_,_,rfl,rfl,_,rfl,_,_,rfl,rfl,_,_,rfl,rfl,⟨by decide,by decide⟩,_,_,rfl,rfl,_,rfl,_,_,rfl,rfl,_,_,rfl,rfl,⟨by decide,by decide⟩,_,_,rfl,rfl,q⟩
theorem ac8:Df P w K mg base "_law_last" 2 ["_law_year","_law_month"] (anL K):=by
 refine ZZ.F__law_last.dfs anU (fun vs H Q E h=>?_) (fun f cdv A outer s H vs Q E hr h=>?_)
 ·obtain⟨y,m,rfl,⟨h1,h2⟩,q⟩:=h
  rfl
 obtain⟨y,m,rfl,⟨h1,h2⟩,q⟩:=h
 refine⟨_,(ssC (sIf (tCm oEq (v_ 1) eI) (ss1 (aaF (eOp aaL eI (eCT avY ZZ.z_int PyProof.Rows.boot_int (aC (eD (amT ZZ) hr (aC (v_ 0) aN)) aN))))) ssN)
   (ss1 (aaF (eIx xL (abW (axJ [31,28,31,30,31,30,31,31,30,31,30,31])) (eOp aa9 (v_ 1) eI))))),?_⟩
 refine⟨_,rfl,rfl,_,rfl,?_⟩
 refine ifI (fun c1=>?_) (fun c1=>?_)
 ·have e:aaE y m=28+ab8 y:=by unfold aaE;rw[if_pos c1]
  rw[e] at q
  refine⟨_,rfl,_,rfl,.inr ⟨_,rfl,_,_,rfl,rfl,?_⟩⟩
  exact q H (Same.refl H)
 ·have e:aaE y m=lasts.getD (m-1).toNat 0:=by unfold aaE;rw[if_neg c1]
  rw[e] at q
  refine⟨(by show 12<=sizeLine;decide),fun p hp=>?_⟩
  refine⟨_,rfl,_,_,rfl,rfl,p,lasts.map V.int,_,_,rfl,rfl,SqL.of aaA,ai4 h1 h2,?_⟩
  exact q _ (aaB hp _)
theorem am7:Df P w K mg base "_law_date" 3 ["_law_day"] (amW K):=by
 refine ZZ.F__law_date.dfs sc__law_date (fun vs H Q E h=>?_) (fun f cdv A outer s H vs Q E hr h=>?_)
 ·obtain⟨d,rfl,q⟩:=h
  rfl
 obtain⟨d,rfl,q⟩:=h
 refine⟨_,(ssC (af4 (eCB aOK ZZ.z_divmod PyProof.Rows.boot_divmod (aC (v_ 0) (aC eI aN))) (gTu (gsC (gN 1 sc__law_date.nd) (gsC (gN 2 sc__law_date.nd) gsN))))
   (ssC (aaI 3 (eOp afQ (v_ 2) eI) sc__law_date.nd)
   (ssC (sWh (tCm oLe (eD (ab6 ZZ) hr (aC (eOp aaL (v_ 3) eI) aN)) (v_ 2)) (ss1 (aaI 3 (eOp aaL (v_ 3) eI) sc__law_date.nd)) PassesOwn.never)
   (ssC (aaI 2 (eOp aa9 (v_ 2) (eD (ab6 ZZ) hr (aC (v_ 3) aN))) sc__law_date.nd)
   (ssC (aaI 4 eI sc__law_date.nd)
   (ssC (sWh (tCm oGe (v_ 2) (eD (ac8 ZZ) hr (aC (v_ 3) (aC (v_ 4) aN)))) (ssC (aaI 2 (eOp aa9 (v_ 2) (eD (ac8 ZZ) hr (aC (v_ 3) (aC (v_ 4) aN)))) sc__law_date.nd)
   (ss1 (aaI 4 (eOp aaL (v_ 4) eI) sc__law_date.nd))) PassesOwn.never)
   (ss1 (aaF (aa5 (aC (eOp aaL (v_ 3) (eOp acS eI (v_ 1))) (aC (v_ 4) (aC (eOp aaL (v_ 2) eI) aN)))))))))))),?_⟩
 refine⟨_,rfl,_,146097,rfl,⟨by decide,by decide⟩,fun tq hq=>⟨tq,_,rfl,SqT.of aaA,rfl,_,_,rfl,_,_,rfl,rfl,?_⟩⟩
 have s0:=aaB hq (.tup [V.int (d / 146097),V.int (d%146097)])
 have x0:0<=d%146097/\d%146097+146097*(d / 146097)=d:=by omega
 refine⟨_,rfl,_,_,rfl,rfl,⟨by decide,by decide⟩,?_⟩
 refine aeL (fun σ H'=>H'=(upd H tq (.tup [V.int (d / 146097),V.int (d%146097)]))/\∃y:Int,σ=[some (.int d),some (.int (d / 146097)),some (.int (d%146097)),some (.int y),none]/\db y<=d%146097) (fun σ _=>match σ with | [_,_,_,some (.int y),_]=>(d%146097-db y).toNat | _=>0) ?_ ?_
 ·refine⟨rfl,_,rfl,?_⟩
  have h1:=av2 (q:=0) (z:=d%146097 / 366) (by omega)
  rw[Int.zero_mul,Int.zero_add] at h1
  omega
 ·rintro σ H' ⟨rfl,y,rfl,hy⟩
  refine⟨_,rfl,_,_,rfl,rfl,_,rfl,_,rfl,_,_,rfl,rfl,_,rfl,?_⟩
  refine ifD (fun c=>?_) (fun c=>?_)
  ·refine⟨_,fun _ _ h=>h,?_⟩
   refine⟨_,rfl,_,_,rfl,rfl,?_⟩
   have h1:=af8 y
   have h2:=ajG y
   exact⟨_,(by show (d%146097-db (y+1)).toNat<(d%146097-db y).toNat;omega),rfl,rfl,_,rfl,c⟩
  ·refine⟨_,rfl,_,rfl,_,rfl,_,_,rfl,rfl,?_⟩
   refine aeL (fun σ H2=>Same (upd H tq (.tup [V.int (d / 146097),V.int (d%146097)])) H2/\∃m r:Int,σ=[some (.int d),some (.int (d / 146097)),some (.int r),some (.int y),some (.int m)]/\(1<=m/\m<=12)/\0<=r/\db y+ahead y m+r=d%146097) (fun σ _=>match σ with | [_,_,_,_,some (.int m)]=>(13-m).toNat | _=>0) ?_ ?_
   ·have a4:ahead y 1=0:=rfl
    exact⟨Same.refl _,1,_,rfl,⟨by decide,by decide⟩,by omega,by omega⟩
   ·rintro σ H2 ⟨s2,m,r,rfl,hm,hr0,he⟩
    refine⟨_,rfl,_,rfl,_,rfl,_,_,rfl,hm,fun H3 s3=>⟨_,_,rfl,rfl,_,rfl,?_⟩⟩
    have a1:=afP (y:=y) hm.1
    refine ifD (fun c2=>?_) (fun c2=>?_)
    ·have a2:=aj0 y
     have a3:=af8 y
     have hm12:m<12:=by
      rcases Int.lt_or_le m 12 with z | z
      ·exact z
      ·have e12:m=12:=by omega
       subst e12
       have a5:ahead y (12+1)=ahead y 13:=rfl
       omega
     refine⟨_,fun _ _ h=>h,?_⟩
     refine⟨_,rfl,_,rfl,_,rfl,_,_,rfl,hm,fun H4 s4=>⟨_,_,rfl,rfl,?_⟩⟩
     refine⟨_,rfl,_,_,rfl,rfl,?_⟩
     exact⟨_,(by show (13-(m+1)).toNat<(13-m).toNat;omega),rfl,s2.trans (s3.trans s4),m+1,r-aaE y m,rfl,⟨by omega,by omega⟩,by omega,by omega⟩
    ·refine⟨_,rfl,_,rfl,_,_,rfl,rfl,.inl ⟨by decide,by decide⟩,_,_,rfl,rfl,_,rfl,_,rfl,_,_,rfl,rfl,(by show 3<=sizeLine;decide),fun p hp=>?_⟩
     obtain⟨o1,o2⟩:=ayE (r:=d / 146097) (d:=d) (x:=d%146097) (show OkD y m (r+1) from ⟨hm,by omega,by omega⟩) (by unfold acJ;omega) x0.2
     exact q _ m (r+1) p _ o1 o2 (s0.trans (s2.trans (s3.trans (aaB hp _)))) aaA
theorem aeX:Df P w K mg base "_law_first" 1 ["_law_mask_here"] (akL K):=by
 refine ZZ.F__law_first.dfs akU (fun vs H Q E h=>?_) (fun f cdv A outer s H vs Q E hr h=>?_)
 ·obtain⟨m,rfl,hm,q⟩:=h
  rfl
 obtain⟨m,rfl,hm,q⟩:=h
 refine⟨_,(ss1 (aaF (eIx xL (acO ["_law_mask_here"] [0] (iR1 ZZ.z_range (aC eI aN)) (fun _ _ _ _ _ _=>(fs1 (tCm oEq (eOp ah2 (eOp aj2 (v_ 1) (v_ 0)) eI) eI))) (fun _ _ _ _ _ _=>(v_ 0))) eI))),?_⟩
 refine⟨_,rfl,by decide,by decide,aa7 (fun i z=>z=(flt (tb m) 0 i).map V.int) (by show 60<=sizeLine;decide) asQ ?_ ?_⟩
 ·intro i z D H2 E' F' hi hR hD s2 hz hE hF
  subst hR
  have hi':i<60:=hi
  have e0:(0+(i:Int)).toNat=i:=by omega
  have hm0:0<=m:=by omega
  refine⟨_,rfl,_,rfl,_,_,rfl,rfl,(by omega),_,_,rfl,rfl,rfl,_,rfl,?_⟩
  have e:decide (V.int (Builtin.bitAnd (m / 2^(0+(i:Int)).toNat) 1)=V.int 1)=tb m i:=by
   rw[e0,←arS hm0]
   exact decide_eq_decide.mpr int_eq
  show if decide (V.int (Builtin.bitAnd (m / 2^(0+(i:Int)).toNat) 1)=V.int 1)=true then _ else _
  rw[e]
  by_cases c:tb m i=true
  ·rw[if_pos c]
   exact⟨_,rfl,hE _ _ (Same.refl _) (by rw[amX c,List.map_append];rfl)⟩
  ·rw[if_neg c]
   exact hF _ (Same.refl _) (by rw[anJ (by simpa using c)])
 ·intro D H2 z hR hD s2 hz
  subst hR
  have hne:flt (tb m) 0 60≠[]:=fun e=>by
   have h0:m=0:=abE (by omega) (Int.le_refl 0) fun i=>by
    rw[abL]
    cases c:tb m i
    ·rfl
    ·rcases Nat.lt_or_ge i 60 with hi | hi
     ·have:=(flt_mem (lo:=0)).mpr ⟨i,hi,c,rfl⟩
      rw[e] at this
      cases this
     ·rw[aiX hm.2 hi] at c
      cases c
   omega
  obtain⟨x,xs,ex⟩:∃x xs,flt (tb m) 0 60=x::xs:=List.exists_cons_of_ne_nil hne
  have hz:H2 D=some (.lst ((flt (tb m) 0 60).map V.int)):=hz
  rw[ex] at hz
  exact⟨D,_,_,V.int x,rfl,rfl,SqL.of hz,af7 (j:=0) rfl,q x H2 s2⟩
theorem amI:Df P w K mg base "_law_shut" 5 ["_law_row_here","_law_moment_here"] (anN K):=by
 refine ZZ.F__law_shut.dfs sc__law_shut (fun vs H Q E h=>?_) (fun f cdv A outer s H vs Q E hr h=>?_)
 ·obtain⟨r,mo,m0,m1,m3,v2,v4,kd,kw,rfl,hr_,hv2,hv4,hn,q⟩:=h
  rfl
 obtain⟨r,mo,m0,m1,m3,v2,v4,kd,kw,rfl,hr_,hv2,hv4,hn,q⟩:=h
 refine⟨_,(ssC (af4 (eCB aOK ZZ.z_divmod PyProof.Rows.boot_divmod (aC (v_ 1) (aC eI aN))) (gTu (gsC (gN 2 sc__law_shut.nd) (gsC (gN 3 sc__law_shut.nd) gsN))))
   (ssC (af4 (eD (am7 ZZ) hr (aC (v_ 2) aN)) (gTu (gsC (gN 4 sc__law_shut.nd) (gsC (gN 5 sc__law_shut.nd) (gsC (gN 6 sc__law_shut.nd) gsN)))))
   (ssC (sIf (tCm oEq (eOp ah2 (eOp aj2 (eIx xL (v_ 0) eI) (v_ 5)) eI) eI) (ss1 (aaF (eSx [109,111,110,116,104]))) ssN)
   (ssC (aaI 7 (eOp aaW (eOp aaL (eOp aaL (eOp aa9 (v_ 2) (v_ 6)) eI) eI) eI) sc__law_shut.nd)
   (ssC (sIf (tCm oEq (eOp ah2 (eOp aj2 (eD (ah0 ZZ) hr (aC (v_ 0) (aC (v_ 5) (aC (eD (ac8 ZZ) hr (aC (v_ 4) (aC (v_ 5) aN))) (aC (v_ 7) aN))))) (v_ 6)) eI) eI) (ss1 (aaF (eSx [100,97,121]))) ssN)
   (ssC (sIf (tCm oEq (eOp ah2 (eOp aj2 (eIx xL (v_ 0) eI) (eOp afQ (v_ 3) eI)) eI) eI) (ss1 (aaF (eSx [104,111,117,114]))) ssN)
   (ssC (sIf (tCm oEq (eOp ah2 (eOp aj2 (eIx xL (v_ 0) eI) (eOp aaW (v_ 3) eI)) eI) eI) (ss1 (aaF (eSx [109,105,110,117,116,101]))) ssN)
   (ss1 (aaF eN))))))))),?_⟩
 refine⟨_,rfl,_,1440,rfl,⟨by decide,by decide⟩,fun tq hq=>⟨tq,_,rfl,SqT.of aaA,rfl,_,_,rfl,_,_,rfl,rfl,?_⟩⟩
 have s0:=aaB hq (.tup [V.int (mo / 1440),V.int (mo%1440)])
 refine⟨_,rfl,_,rfl,fun y m k p H1 ok e s1 hp=>⟨p,_,rfl,SqT.of hp,rfl,_,_,rfl,_,_,rfl,_,_,rfl,rfl,?_⟩⟩
 have sA:=s0.trans s1
 have q':=q y m k
 have hm:=ok.1
 have hk1:=ok.2.1
 refine⟨_,rfl,r,_,_,_,rfl,rfl,SqL.of (sA _ _ hr_),rfl,_,rfl,_,_,rfl,rfl,(by show (0:Int)<=m;omega),_,_,rfl,rfl,rfl,_,rfl,ifI (fun c=>?e1) (fun c=>?n1)⟩
 case e1=>
  have z:=q' H1 ok e sA
  rw[sh1 ((afL hn.2.2 _).mp c)] at z
  exact z
 case n1=>
  have c1:=ar3 hn.2.2 c
  refine⟨_,rfl,_,rfl,_,_,rfl,rfl,_,_,rfl,rfl,_,_,rfl,rfl,_,_,rfl,rfl,(by show (0:Int)<7;decide),?_⟩
  refine⟨_,rfl,_,rfl,_,rfl,_,rfl,y,m,rfl,hm,fun H2 s2=>⟨_,rfl,r,m,aaE y m,_,m0,m1,m3,v2,v4,kd,kw,rfl,(sA.trans s2) _ _ hr_,hv2.keep (sA.trans s2),hv4.keep (sA.trans s2),hn.2.2,hm,arU ok,fun H3 s3=>?_⟩⟩
  rw[if_pos c1]
  have s13:=s2.trans s3
  have sB:=sA.trans s13
  have nn:=apE (arU (d:=mo / 1440) ok) (aD5 hv2) (aD5 hv4)
  refine⟨_,rfl,_,_,rfl,rfl,(by show (0:Int)<=k;omega),_,_,rfl,rfl,rfl,_,rfl,ifI (fun c=>?e2) (fun c=>?n2)⟩
  case e2=>
   have z:=q' H3 ok e sB
   rw[sh2 c1 ((afL nn _).mp c)] at z
   exact z
  case n2=>
   have c2:=ar3 nn c
   refine⟨_,rfl,r,_,_,_,rfl,rfl,SqL.of (sB _ _ hr_),rfl,_,rfl,_,_,rfl,rfl,⟨by decide,by decide⟩,_,_,rfl,rfl,(by show (0:Int)<=mo%1440 / 60;omega),_,_,rfl,rfl,rfl,_,rfl,ifI (fun c=>?e3) (fun c=>?n3)⟩
   case e3=>
    have z:=q' H3 ok e sB
    rw[sh3 c1 c2 ((afL hn.2.1 _).mp c)] at z
    exact z
   case n3=>
    have c3:=ar3 hn.2.1 c
    refine⟨_,rfl,r,_,_,_,rfl,rfl,SqL.of (sB _ _ hr_),rfl,_,rfl,_,_,rfl,rfl,(by show (0:Int)<60;decide),_,_,rfl,rfl,(by show (0:Int)<=mo%1440%60;omega),_,_,rfl,rfl,rfl,_,rfl,ifI (fun c=>?e4) (fun c=>?n4)⟩
    case e4=>
     have z:=q' H3 ok e sB
     rw[sh4 c1 c2 c3 ((afL hn.1 _).mp c)] at z
     exact z
    case n4=>
     have z:=q' H3 ok e sB
     rw[sh5 c1 c2 c3 (ar3 hn.1 c)] at z
     exact z
theorem ajY:Df P w K mg base "_law_moment" 3 ["_law_cell","_law_mixed"] (akA K):=by
 refine ZZ.F__law_moment.dfs sc__law_moment (fun vs H Q E h=>?_) (fun f cdv A outer s H vs Q E hr h=>?_)
 ·obtain⟨c,bm,rfl,q⟩:=h
  rfl
 obtain⟨c,bm,rfl,q⟩:=h
 refine⟨_,(ssC (aaI 2 (eOp aa9 (eOp aaW (v_ 0) (eOp aaL (eOp acS eI (eOp atA eI eI)) eI)) (eOp atA eI eI)) sc__law_moment.nd)
   (ssC (sIf (tW (aoA (tNo (tVa (v_ 1))) (ajO (tCm oGe (eCB aBV ZZ.z_abs PyProof.Rows.boot_abs (aC (v_ 0) aN)) (eOp atA eI eI))))) (ss1 (aaF (v_ 2))) ssN)
   (ssC (af4 (eD (acH ZZ) hr (aC (v_ 0) (aC (abW (axJ [4,801,41,9,365,1440,3])) (aC eB aN)))) (aJY (gsC (gN 3 sc__law_moment.nd) (gsC (gN 4 sc__law_moment.nd) (gsC (gN 5 sc__law_moment.nd) (gsC (gN 6 sc__law_moment.nd) (gsC (gN 7 sc__law_moment.nd) (gsC (gN 8 sc__law_moment.nd) (gsC (gN 9 sc__law_moment.nd) gsN)))))))))
   (ssC (aaI 10 (eIx xL (abW (aC (eOp aa9 (v_ 4) eI) (aC (eOp acS eI (eOp aa9 (v_ 5) eI)) (aC (eOp aaL eI (eOp aaW (v_ 4) eI)) (aC eI aN))))) (v_ 3)) sc__law_moment.nd)
   (ssC (aaI 7 (eIx xL (abW (aC (eIx xL (abW (aC (eUn aq1 eI) (aC eI (aC eI (aC eI (aC eI (aC eI (aC eI (aC eI (aC eI aN)))))))))) (v_ 6)) (aC (v_ 7) aN))) (eCT avY ZZ.z_int PyProof.Rows.boot_int (aC (adF oEq (v_ 3) eI) aN))) sc__law_moment.nd)
   (ssC (aaI 11 (eOp aaL (eOp acS eI (eOp aaL (eD (ab6 ZZ) hr (aC (v_ 10) aN)) (v_ 7))) (eIx xL (abW (aC (v_ 8) (aC eI (aC eI aN)))) (v_ 9))) sc__law_moment.nd)
   (ss1 (aaF (eIx xL (abW (aC (v_ 11) (aC (v_ 2) aN))) (eCT avY ZZ.z_int PyProof.Rows.boot_int (aC (adF oEq (v_ 3) eI) aN))))))))))),?_⟩
 have e7:∀z∈([4,801,41,9,365,1440,3]:List Int),0<z/\z<1073741824:=by decide
 refine⟨_,rfl,_,_,rfl,rfl,⟨by decide,by decide,by decide⟩,_,_,rfl,rfl,.inl ⟨by decide,by decide⟩,_,_,rfl,rfl,_,_,rfl,rfl,(by rw[aMT];show (0:Int)<_;decide),_,_,rfl,rfl,⟨by decide,by decide,by decide⟩,_,_,rfl,rfl,?_⟩
 obtain⟨far,ef⟩:∃far,far=c%(2*10^(58:Int).toNat+1)-10^(58:Int).toNat:=⟨_,rfl⟩
 show ab3 2 (V.int (c%(2*10^(58:Int).toNat+1)-10^(58:Int).toNat)) _ _ _
 rw[←ef]
 refine⟨_,rfl,_,rfl,?_⟩
 cases bm with
 |true=>
  refine aaU (aaU ?_)
  refine⟨_,rfl,(by show 7<=sizeLine;decide),fun ls hls=>⟨c,ls,true,[4,801,41,9,365,1440,3],rfl,SqL.of aaA,e7,(by decide),fun ds p H1 s1 hp hd=>?_⟩⟩
  obtain⟨d0,d1,d2,d3,d4,d5,d6,rfl,k0,k3,k6⟩:∃d0 d1 d2 d3 d4 d5 d6:Int,ds=[d0,d1,d2,d3,d4,d5,d6]/\(0<=d0/\d0<4)/\(0<=d3/\d3<9)/\0<=d6/\d6<3:=by cases hd with | cons g0 r=>cases r with | cons g1 r=>cases r with | cons g2 r=>cases r with | cons g3 r=>cases r with | cons g4 r=>cases r with | cons g5 r=>cases r with | cons g6 r=>cases r;exact⟨_,_,_,_,_,_,_,rfl,g0,g3,g6⟩
  refine⟨p,_,rfl,SqL.of hp,rfl,_,_,rfl,_,_,rfl,_,_,rfl,_,_,rfl,_,_,rfl,_,_,rfl,_,_,rfl,rfl,?_⟩
  obtain⟨yy,hyy⟩:=aeN (zs:=[d1-200,100*(d2-10),1990+d1%60,0]) (i:=d0) k0.1 k0.2
  obtain⟨ee,hee⟩:=aeN (zs:=[-1,0,30,31,58,59,60,364,365]) (i:=d3) k3.1 k3.2
  obtain⟨dd,hdd⟩:=arR ee d4 (decide (V.int d0=V.int 2))
  obtain⟨tt,htt⟩:=aeN (zs:=[d5,0,1439]) (i:=d6) k6.1 k6.2
  obtain⟨ff,hff⟩:=arR (1440*(db yy+dd)+tt) far (decide (V.int d0=V.int 3))
  refine⟨_,rfl,_,_,rfl,rfl,_,rfl,_,_,rfl,rfl,_,_,rfl,rfl,.inl ⟨by decide,by decide⟩,_,rfl,_,_,rfl,rfl,(by show (0:Int)<60;decide),_,_,rfl,rfl,(by show 4<=sizeLine;decide),fun l1 h1=>⟨_,rfl,l1,_,_,_,rfl,rfl,SqL.of aaA,hyy,?_⟩⟩
  refine⟨_,rfl,(by show 9<=sizeLine;decide),fun l2 h2=>⟨_,rfl,l2,_,_,_,rfl,rfl,SqL.of aaA,hee,_,rfl,(by show 2<=sizeLine;decide),fun l3 h3=>⟨_,rfl,rfl,.inr ⟨_,rfl,l3,_,_,_,rfl,rfl,SqL.of aaA,hdd,?_⟩⟩⟩⟩
  refine⟨_,rfl,_,rfl,_,rfl,_,_,rfl,rfl,_,_,rfl,rfl,.inl ⟨by decide,by decide⟩,_,rfl,(by show 3<=sizeLine;decide),fun l4 h4=>⟨_,rfl,l4,_,_,_,rfl,rfl,SqL.of aaA,htt,_,_,rfl,rfl,?_⟩⟩
  refine⟨_,rfl,_,rfl,(by show 2<=sizeLine;decide),fun l5 h5=>⟨_,rfl,rfl,.inr ⟨_,rfl,l5,_,_,_,rfl,rfl,SqL.of aaA,hff,q _ _ ?_⟩⟩⟩
  exact ((aaB hls _).trans s1).trans ((aaB h1 _).trans ((aaB h2 _).trans ((aaB h3 _).trans ((aaB h4 _).trans (aaB h5 _)))))
 |false=>
  refine aa8 ⟨_,rfl,_,rfl,_,_,rfl,rfl,⟨by decide,by decide,by decide⟩,_,_,rfl,rfl,_,rfl,ifD (fun _=>⟨_,rfl,q _ _ (Same.refl _)⟩) (fun _=>?_)⟩
  refine⟨_,rfl,(by show 7<=sizeLine;decide),fun ls hls=>⟨c,ls,true,[4,801,41,9,365,1440,3],rfl,SqL.of aaA,e7,(by decide),fun ds p H1 s1 hp hd=>?_⟩⟩
  obtain⟨d0,d1,d2,d3,d4,d5,d6,rfl,k0,k3,k6⟩:∃d0 d1 d2 d3 d4 d5 d6:Int,ds=[d0,d1,d2,d3,d4,d5,d6]/\(0<=d0/\d0<4)/\(0<=d3/\d3<9)/\0<=d6/\d6<3:=by cases hd with | cons g0 r=>cases r with | cons g1 r=>cases r with | cons g2 r=>cases r with | cons g3 r=>cases r with | cons g4 r=>cases r with | cons g5 r=>cases r with | cons g6 r=>cases r;exact⟨_,_,_,_,_,_,_,rfl,g0,g3,g6⟩
  refine⟨p,_,rfl,SqL.of hp,rfl,_,_,rfl,_,_,rfl,_,_,rfl,_,_,rfl,_,_,rfl,_,_,rfl,_,_,rfl,rfl,?_⟩
  obtain⟨yy,hyy⟩:=aeN (zs:=[d1-200,100*(d2-10),1990+d1%60,0]) (i:=d0) k0.1 k0.2
  obtain⟨ee,hee⟩:=aeN (zs:=[-1,0,30,31,58,59,60,364,365]) (i:=d3) k3.1 k3.2
  obtain⟨dd,hdd⟩:=arR ee d4 (decide (V.int d0=V.int 2))
  obtain⟨tt,htt⟩:=aeN (zs:=[d5,0,1439]) (i:=d6) k6.1 k6.2
  obtain⟨ff,hff⟩:=arR (1440*(db yy+dd)+tt) far (decide (V.int d0=V.int 3))
  refine⟨_,rfl,_,_,rfl,rfl,_,rfl,_,_,rfl,rfl,_,_,rfl,rfl,.inl ⟨by decide,by decide⟩,_,rfl,_,_,rfl,rfl,(by show (0:Int)<60;decide),_,_,rfl,rfl,(by show 4<=sizeLine;decide),fun l1 h1=>⟨_,rfl,l1,_,_,_,rfl,rfl,SqL.of aaA,hyy,?_⟩⟩
  refine⟨_,rfl,(by show 9<=sizeLine;decide),fun l2 h2=>⟨_,rfl,l2,_,_,_,rfl,rfl,SqL.of aaA,hee,_,rfl,(by show 2<=sizeLine;decide),fun l3 h3=>⟨_,rfl,rfl,.inr ⟨_,rfl,l3,_,_,_,rfl,rfl,SqL.of aaA,hdd,?_⟩⟩⟩⟩
  refine⟨_,rfl,_,rfl,_,rfl,_,_,rfl,rfl,_,_,rfl,rfl,.inl ⟨by decide,by decide⟩,_,rfl,(by show 3<=sizeLine;decide),fun l4 h4=>⟨_,rfl,l4,_,_,_,rfl,rfl,SqL.of aaA,htt,_,_,rfl,rfl,?_⟩⟩
  refine⟨_,rfl,_,rfl,(by show 2<=sizeLine;decide),fun l5 h5=>⟨_,rfl,rfl,.inr ⟨_,rfl,l5,_,_,_,rfl,rfl,SqL.of aaA,hff,q _ _ ?_⟩⟩⟩
  exact ((aaB hls _).trans s1).trans ((aaB h1 _).trans ((aaB h2 _).trans ((aaB h3 _).trans ((aaB h4 _).trans (aaB h5 _)))))
theorem ac6:Df P w K mg base "_law_good" 8 ["_law_found","_law_row_here","_law_moment_here"] (anH K C_Numbers C_Last C_Near C_LastWork C_Weekdays C_Nth C_LastOne C_Mark C_Row):=by
 refine ZZ.F__law_good.dfs sc__law_good (fun vs H Q E h=>?_) (fun f cdv A outer s H vs Q E hr h=>?_)
 ·obtain⟨x,dx,r,mo,m0,m1,m3,tm,dv,wv,v2,v4,w2,w4,kd,kw,rfl,hx,hr_,hdv,hwv,hv2,hv4,d2,d4,hn,q⟩:=h
  rfl
 obtain⟨x,dx,r,mo,m0,m1,m3,tm,dv,wv,v2,v4,w2,w4,kd,kw,rfl,hx,hr_,hdv,hwv,hv2,hv4,d2,d4,hn,q⟩:=h
 refine⟨_,(ssC (aaI 3 (eMe ZZ.c_Row.cl (aj5 ZZ) hr (v_ 0) (aC (v_ 2) aN)) sc__law_good.nd)
   (ssC (aaI 4 (eD (amI ZZ) hr (aC (v_ 1) (aC (v_ 2) aN))) sc__law_good.nd)
   (ssC (sIf (tCm aeA (v_ 4) eN) (ss1 (aaF (adF aeA (v_ 3) eN))) ssN)
   (ss1 (aaF (aqP (eCB cIs ZZ.z_isinstance PyProof.Rows.boot_isinstance (aC (v_ 3) (aC (eTy ZZ.z_str PyProof.Rows.boot_str) aN))) (ajK (adF oEq (v_ 3) (v_ 4))))))))),?_⟩
 refine⟨_,rfl,x,dx,_,rfl,hx,aiJ ..,_,rfl,x,dx,m0,m1,m3,tm,mo,dv,wv,gO false kd,gO true kw,rfl,hx,hn,hdv,hwv,fun y m k H1 ok e s1=>?_⟩
 refine⟨_,rfl,_,rfl,r,mo,m0,m1,m3,v2,v4,kd,kw,rfl,s1 _ _ hr_,hv2.keep s1,hv4.keep s1,hn,fun y' m' k' H2 ok' e' s2=>?_⟩
 have z:=q H2 (s1.trans s2)
 rw[ayA d2 d4 ok ok' e e']
 rcases aJD m0 m1 m3 kd kw (mo / 1440) (mo%1440) y' m' k' with h | ⟨t,h⟩
 ·rw[h]
  refine⟨_,rfl,rfl,_,rfl,?_⟩
  show if decide (V.non=V.non)=true then _ else _
  rw[decide_eq_true rfl]
  refine aa8 ⟨_,rfl,rfl,?_⟩
  show Q (.bl (decide (V.non=V.non))) H2
  rw[decide_eq_true rfl]
  exact z
 ·rw[h]
  refine⟨_,rfl,rfl,_,rfl,aaU ⟨_,rfl,_,.str,.str,rfl,(by decide),rfl,_,rfl,aa8 ⟨_,rfl,_,rfl,rfl,?_⟩⟩⟩
  show Q (.bl (decide (V.str (Tx t)=V.str (Tx t)))) H2
  rw[decide_eq_true rfl]
  exact z
theorem aGO{fL:Addr}{fdL:FuncData}(F:Fun K "law" "law" alK fL fdL):FnOk P w K mg base CX0 12 fL fdL ["_law_script"] (sp_law K):=by
 refine F.oks sc_law (fun vs H Q E h=>?_) (fun cdv A outer s H vs Q E hr h=>?_)
 ·obtain⟨a,ns,rfl,hS,hlen,q⟩:=h
  rfl
 obtain⟨a,ns,rfl,hS,hlen,q⟩:=h
 refine⟨_,(ssC (aaI 1 (adF oEq (eOp aaW (eD (abX ZZ) hr (aC (v_ 0) (aC eI aN))) eI) eI) sc_law.nd)
   (ssC (af4 (eD (ahD ZZ) hr (aC (eD (ae1 ZZ) hr (aC (v_ 0) (aC eI aN))) (aC (v_ 1) aN))) (gTu (gsC (gN 2 sc_law.nd) (gsC (gN 3 sc_law.nd) gsN))))
   (ssC (aaI 4 (eD (ad4 ZZ) hr (aC (v_ 2) aN)) sc_law.nd)
   (ssC (aaI 5 (eD (ad4 ZZ) hr (aC (v_ 2) aN)) sc_law.nd)
   (ssC (af4 (eD (ahD ZZ) hr (aC (eD (ae1 ZZ) hr (aC (v_ 0) (aC eI aN))) (aC (v_ 1) aN))) (gTu (gsC (gN 6 sc_law.nd) (gsC (gN 7 sc_law.nd) gsN))))
   (ssC (aaI 8 (eD (ad4 ZZ) hr (aC (v_ 6) aN)) sc_law.nd)
   (ssC (aaI 9 (eOp acS eI (eD (aeX ZZ) hr (aC (eIx xL (v_ 3) eI) aN))) sc_law.nd)
   (ssC (afK (iR2 ZZ.z_range (aC eI (aC (eCB cMax ZZ.z_max PyProof.Rows.boot_max (aC eI (aC (eCB cMin ZZ.z_min PyProof.Rows.boot_min (aC eI (aC (eCB amJ ZZ.z_len PySem.boot_len (aC (v_ 0) aN)) aN))) aN))) aN))) (gN 10 sc_law.nd) (ssC (aaI 11 (eD (ajY ZZ) hr (aC (eD (abX ZZ) hr (aC (v_ 0) (aC (v_ 10) aN))) (aC (v_ 1) aN))) sc_law.nd)
   (ssC (aaI 12 (eOp aaL (eOp acS (eOp afQ (v_ 11) eI) eI) (v_ 9)) sc_law.nd)
   (ss1 (afK (iL (abW (aC (v_ 11) (aC (eOp aa9 (v_ 12) eI) (aC (eOp aaL (v_ 12) (eD (aeX ZZ) hr (aC (eIx xL (v_ 3) eI) aN))) (aC (eOp aaL (eOp aaL (v_ 12) eI) eI) (aC (eOp aaL (v_ 12) eI) aN))))))) (gN 13 sc_law.nd) (ss1 (sIf (tW (wOr (tNo (tVa (eD (ac6 ZZ) hr (aC (v_ 4) (aC (v_ 3) (aC (v_ 13) aN)))))) (wOr (tNo (tVa (eD (ac6 ZZ) hr (aC (v_ 8) (aC (v_ 7) (aC (v_ 13) aN)))))) (akT (tNo (tVa (eD (ac6 ZZ) hr (aC (v_ 5) (aC (v_ 3) (aC (v_ 13) aN)))))))))) (ss1 (aaF eB)) ssN)) PassesOwn.never)))) PassesOwn.never)
   (ss1 (aaF eB)))))))))),?_⟩
 have hl63:(ns.map V.int).length=ns.length:=List.length_map _
 refine⟨_,rfl,a,_,rfl,⟨ns,hS⟩,⟨by decide,by decide⟩,fun c0=>⟨_,_,rfl,rfl,(by show (0:Int)<2;decide),rfl,?_⟩⟩
 obtain⟨bm,ebm⟩:∃bm,bm=decide (V.int (c0%2)=V.int 1):=⟨_,rfl⟩
 show ab3 1 (V.bl (decide (V.int (c0%2)=V.int 1))) _ _ _
 rw[←ebm]
 refine⟨_,rfl,a,_,rfl,⟨ns,hS⟩,⟨by decide,by decide⟩,fun p c0 c1 c2 c3 c4 H1 s1 hp=>⟨_,rfl,p,c0,c1,c2,c3,c4,bm,rfl,SqL.of hp,fun t R w0 w1 w2 w3 w4 m0 m1 m3 v2 v4 kd kw H2 s2 ht hR f0 f1 f3 d2 d4 sv2 sv4 hz hb=>⟨t,_,rfl,SqT.of ht,rfl,_,_,rfl,_,_,rfl,rfl,?_⟩⟩⟩
 refine⟨_,rfl,w0,w1,w2,w3,w4,m0,m1,m3,kd,kw,rfl,f0,f1,f3,d2,d4,hb,fun x dx dv wv tm H3 _ s3 hx hdv hwv=>?_⟩
 refine⟨_,rfl,w0,w1,w2,w3,w4,m0,m1,m3,kd,kw,rfl,f0,f1,f3,d2,d4,hb,fun x' dx' dv' wv' tm' H4 _ s4 hx' hdv' hwv'=>?_⟩
 have sH4:Same H H4:=s1.trans (s2.trans (s3.trans s4))
 refine⟨_,rfl,a,_,rfl,⟨ns,sH4.seq hS⟩,⟨by decide,by decide⟩,fun p' e0 e1 e2 e3 e4 H5 s5 hp'=>⟨_,rfl,p',e0,e1,e2,e3,e4,bm,rfl,SqL.of hp',fun t' R' u0 u1 u2 u3 u4 n0 n1 n3 y2 y4 kd' kw' H6 s6 ht' hR' g0 g1 g3 b2 b4 tv2 tv4 hz' hb'=>⟨t',_,rfl,SqT.of ht',rfl,_,_,rfl,_,_,rfl,rfl,?_⟩⟩⟩
 refine⟨_,rfl,u0,u1,u2,u3,u4,n0,n1,n3,kd',kw',rfl,g0,g1,g3,b2,b4,hb',fun x'' dx'' dv'' wv'' tm'' H7 _ s7 hx'' hdv'' hwv''=>?_⟩
 have s47:=s5.trans (s6.trans s7)
 have s37:=s4.trans s47
 have s27:=s3.trans s37
 refine⟨_,rfl,R,_,_,_,rfl,rfl,SqL.of (s27 _ _ hR),rfl,m1,rfl,⟨hz.2,by omega⟩,fun n H8 s8=>⟨_,_,rfl,rfl,.inl ⟨by decide,by decide⟩,?_⟩⟩
 obtain⟨hh,ehh⟩:∃hh,hh=60*n:=⟨_,rfl⟩
 show ab3 _ (V.int (60*n)) _ _ _
 rw[←ehh]
 have sA:Same H H8:=sH4.trans (s47.trans s8)
 refine⟨_,rfl,a,_,rfl,.inl (sA.seq hS),_,_,rfl,_,_,rfl,_,_,rfl,⟨by decide,by decide,?lo,?hi⟩,aeI (fun i σ H9=>∃z1 z2 z3 z4:Option V,σ=[some (.ref a),some (.bl bm),some (.str (Tx (aaT 32 [w0,w1,w2,w3,w4]))),some (.ref R),some (.ref x),some (.ref x'),some (.str (Tx (aaT 32 [u0,u1,u2,u3,u4]))),some (.ref R'),some (.ref x''),some (.int hh),z1,z2,z3,z4]/\Same H8 H9) ⟨_,_,_,_,rfl,Same.refl _⟩ ?turn ?done⟩
 case lo=>
  rw[hl63]
  split<;>(try split)<;>omega
 case hi=>
  rw[hl63]
  split<;>(try split)<;>omega
 case done=>
  rintro σ H9 ⟨_,_,_,_,rfl,s9⟩
  exact q H9
 case turn=>
  rintro i σ H9 hi ⟨_,_,_,_,rfl,s9⟩
  have hi':i<900:=by
   rw[hl63] at hi
   split at hi<;>(try split at hi)<;>omega
  refine⟨_,rfl,_,rfl,a,_,rfl,⟨ns,(sA.trans s9).seq hS⟩,⟨by omega,by omega⟩,fun c=>⟨_,rfl,c,bm,rfl,fun mo J1 t1=>?_⟩⟩
  refine⟨_,rfl,_,_,rfl,rfl,⟨by decide,by decide⟩,_,_,rfl,rfl,.inr ⟨by decide,by decide⟩,_,rfl,_,_,rfl,rfl,?_⟩
  obtain⟨st,est⟩:∃st,st=mo / 1440*1440+hh:=⟨_,rfl⟩
  show ab3 _ (V.int (mo / 1440*1440+hh)) _ _ _
  rw[←est]
  have s7J:=s8.trans (s9.trans t1)
  refine⟨_,rfl,_,rfl,_,_,rfl,rfl,_,rfl,_,rfl,R,_,_,_,rfl,rfl,SqL.of ((s27.trans s7J) _ _ hR),rfl,m0,rfl,⟨hz.1,hb.1⟩,fun n2 J2 t2=>⟨_,_,rfl,rfl,_,rfl,_,_,rfl,rfl,_,_,rfl,rfl,_,rfl,_,_,rfl,rfl,(by show 5<=sizeLine;decide),fun L hL=>?_⟩⟩
  have sL:=aaB hL (.lst [V.int mo,V.int (st-1440),V.int (st+n2),V.int (st+1440+59),V.int (st+60)])
  have s8L:=s9.trans (t1.trans (t2.trans sL))
  refine⟨L,rfl,⟨_,SqL.of aaA⟩,abS (K:=K) (a:=L) (xs:=[V.int mo,V.int (st-1440),V.int (st+n2),V.int (st+1440+59),V.int (st+60)]) (fun j σ J3=>∃v9:Option V,σ=[some (.ref a),some (.bl bm),some (.str (Tx (aaT 32 [w0,w1,w2,w3,w4]))),some (.ref R),some (.ref x),some (.ref x'),some (.str (Tx (aaT 32 [u0,u1,u2,u3,u4]))),some (.ref R'),some (.ref x''),some (.int hh),some (.int (6+(i:Int))),some (.int mo),some (.int st),v9]/\Same (upd J2 L (.lst [V.int mo,V.int (st-1440),V.int (st+n2),V.int (st+1440+59),V.int (st+60)])) J3) ⟨_,rfl,Same.refl _⟩ (fun j σ J3 _ ⟨_,_,t3⟩=>SqL.of (t3 _ _ aaA)) ?turn2 ?done2⟩
  case done2=>
   rintro σ J3 ⟨v9,rfl,t3⟩
   exact⟨_,_,_,_,rfl,s8L.trans t3⟩
  case turn2=>
   rintro j u σ J3 hu ⟨v9,rfl,t3⟩
   obtain⟨z,rfl⟩:∃z:Int,u=.int z:=aCS (zs:=[mo,st-1440,st+n2,st+1440+59,st+60]) hu
   have s7J:=s8.trans (s8L.trans t3)
   have s6J:=s7.trans s7J
   have s4J:=s47.trans s7J
   have s3J:=s37.trans s7J
   have s2J:=s27.trans s7J
   refine⟨_,rfl,_,rfl,_,rfl,x,dx,R,z,m0,m1,m3,tm,dv,wv,v2,v4,w2,w4,kd,kw,rfl,s3J _ _ hx,s2J _ _ hR,hdv.keep s3J,hwv.keep s3J,sv2.keep s2J,sv4.keep s2J,d2,d4,⟨f0.nn,f1.nn,f3.nn⟩,  fun K1 r1=>⟨_,rfl,aaU ⟨_,rfl,_,rfl,_,rfl,x'',dx'',R',z,n0,n1,n3,tm'',dv'',wv'',y2,y4,u2,u4,kd',kw',rfl,(s7J.trans r1) _ _ hx'',(s6J.trans r1) _ _ hR',hdv''.keep (s7J.trans r1),hwv''.keep (s7J.trans r1),tv2.keep (s6J.trans r1),tv4.keep (s6J.trans r1),b2,b4,⟨g0.nn,g1.nn,g3.nn⟩,  fun K2 r2=>⟨_,rfl,aaU ⟨_,rfl,_,rfl,_,rfl,x',dx',R,z,m0,m1,m3,tm',dv',wv',v2,v4,w2,w4,kd,kw,rfl,(s4J.trans (r1.trans r2)) _ _ hx',(s2J.trans (r1.trans r2)) _ _ hR,hdv'.keep (s4J.trans (r1.trans r2)),hwv'.keep (s4J.trans (r1.trans r2)),sv2.keep (s2J.trans (r1.trans r2)),sv4.keep (s2J.trans (r1.trans r2)),d2,d4,⟨f0.nn,f1.nn,f3.nn⟩,  fun K3 r3=>⟨_,rfl,aaU ⟨_,rfl,t3.trans (r1.trans (r2.trans r3))⟩⟩⟩⟩⟩⟩⟩
end
theorem all_mk{l:PySem.W.OpenLaw}{w:World}{K:PySem.W.Frag}{h:Heap}{mg:Str->Option Value}{fa f:Addr}{C_Mark C_Numbers C_Last C_Near C_LastWork C_Weekdays C_Nth C_LastOne C_Row C_read_weekday_mark C_read_day_mark a_MONTH_LASTS a_BOUNDS a_BOUNDS_0 a_BOUNDS_1 a_BOUNDS_3:Addr}{t_ROUND_DAYS t_ROUND_YEARS t_LONG_PLACE t_DAY_MINUTES t_HOUR_MINUTES t_FIGURES t_MOST_STRIDE t_MOST_SIGNS t_MOST_ITEMS t_SATURDAY t_SUNDAY t_MOST_BACK t_MOST_DAY t_SUNDAY_TOO t_MOST_NTH t_MOST_MARKS t_ALL_WEEKDAYS t_LONG_LAST t_SHORT_YEAR t_MINUTE t_HOUR t_DAY t_MONTH t_WEEKDAY t_MOST_ROW_SIGNS t_NO_PLACE:Tok}{oc kV dc pm cd ct:Value}{od an:Option Addr}{sl:Array (Option Value)}(X:K.In h)(G:h.Ns mainGlobals mg)(hfa:mg "law"=some (.ref fa))(ZZ:Fs K mg C_Mark C_Numbers C_Last C_Near C_LastWork C_Weekdays C_Nth C_LastOne C_Row C_read_weekday_mark C_read_day_mark a_MONTH_LASTS a_BOUNDS a_BOUNDS_0 a_BOUNDS_1 a_BOUNDS_3 t_ROUND_DAYS t_ROUND_YEARS t_LONG_PLACE t_DAY_MINUTES t_HOUR_MINUTES t_FIGURES t_MOST_STRIDE t_MOST_SIGNS t_MOST_ITEMS t_SATURDAY t_SUNDAY t_MOST_BACK t_MOST_DAY t_SUNDAY_TOO t_MOST_NTH t_MOST_MARKS t_ALL_WEEKDAYS t_LONG_LAST t_SHORT_YEAR t_MINUTE t_HOUR t_DAY t_MONTH t_WEEKDAY t_MOST_ROW_SIGNS t_NO_PLACE)
  (a:PySem.W.nsIn K mainGlobals "law"=some (some (.ref f))) (lk:K.lookup f=some ⟨oc,od,.func (PySem.W.fnOf "law" "law" (abB alK) (aaQ alK) (aaC alK) .none kV dc pm an cd ct),sl⟩) (c:PySem.W.codeIn K cd "law"=true) (k:PySem.W.keepIn K (.ref f)=true):
  ∃fd:FuncData,(∀(s:Shared) (v:Value),BindsTo s fd ⟨[v],[]⟩ [("_law_script",v)])/\∀base:Heap,K.In base->base.Ns mainGlobals mg->FnOk l.prog w K mg base CX0 12 fa fd ["_law_script"] (sp_law K):=by
 cases hfa.symm.trans (PySem.W.mg_of X G a)
 exact⟨_,fun s v=>.of_eq rfl,fun base _ _=>aGO ZZ (aqY (st:=alK) lk c k)⟩
theorem walk{l:PySem.W.OpenLaw}{q:Program}{loose:List Str}{XP:(Str->Option Value)->Heap->Prop}{YP:World->Heap->Prop}{d:DefRec}{K:Params->PySem.W.Frag}(hn:l.most=some 63)(hdf:d.params.defaults=[])
  (hY:∀(w:World) (h:Heap),YP w h->(K w.params).In h)
  (F:∀(w:World) (mg:Str->Option Value) (fa:Addr) (h:Heap),(K w.params).In h->h.Ns mainGlobals mg->mg d.name=some (.ref fa)->
   ∃fd:FuncData,(∀(s:Shared) (u:Value),BindsTo s fd ⟨[u],[]⟩ [("_law_script",u)])/\∀base:Heap,(K w.params).In base->base.Ns mainGlobals mg->FnOk l.prog w (K w.params) mg base CX0 12 fa fd ["_law_script"] (sp_law (K w.params))):
  PySem.W.WalkO q loose XP YP l.row.toRowW d [] (fun f vs=>PySem.call f vs):=
 L2.walk_of (n:=63) (k:=12) (x:="_law_script") (CX:=fun _=>CX0) (sp:=fun w=>sp_law (K w.params)) hn (by decide) hdf ⟨rfl,by decide,by decide⟩ hY F (fun _ _ a ns hl _ hS=>⟨a,ns,rfl,hS,hl,fun _=>rfl⟩) fun _ _ _ _ _ z=>z
end K44
open PySem PySem.W PyProof.Rows
local macro_rules
  | `(tactic| o_head $H) => `(tactic| (
      refine holds_open (q := Hd.seenBy) (loose := Hd.free) (N := 12954)
        (Xt := Hd.XT)
        (XP := XL Hd.seenBy Hd.read)
        (Yf := Hook.obs $H) (Ya := Hook.val $H) (YP := Hook.says $H)
        ?hl (Hook.of $H) (Hook.keeps $H)
        (fun z y => xl_of z (Bool.and_eq_true_iff.mp y).1) XL.keeps
        (by rfl) (by rfl) (by rfl)
        (fun z y => recFacts_of (Bool.and_eq_true_iff.mp y).2)
        (by rfl) (by first | assumption | decide +kernel) (by decide +kernel)
        ⟨rfl,rfl,rfl,rfl,rfl,by decide +kernel⟩ ?hw ?hc
      (case hl =>
        refine LeftO.of_pieces Hd.opn Hd.siz Hd.run rfl ?_
        intro w
        funext os
        refine looks_pair (Hd.lk0 w os) (looks_pair (Hd.look w os) ?_)
        as_aux_lemma => kernel_rfl)))
open PySem PySem.W PyProof.Rows L2
set_option maxRecDepth 100000 in
set_option maxHeartbeats 0 in
theorem PySem.Challenge.cw_fivefields_k44_shut_by_holds : PySem.Challenge.rw_fivefields_k44_shut_by.Holds := by
 w_on;o_law;k_head;(case hw=>w_witness2)
 k_fill
 refine K44.walk (l:=PySem.Challenge.rw_fivefields_k44_shut_by) rfl rfl (fun w h Y=>PySem.W.kIn_of Y) ?F
 case F=>
  intro w mg fa h KX G hmg
  refine' K44.all_mk KX G hmg ⟨
   ⟨PySem.W.mg_of KX G ?_,⟨?_,?_,?_,?_⟩,?_,?_⟩,
   ?_,
   ⟨PySem.W.mg_of KX G ?_,⟨?_,?_,?_,?_⟩,?_,?_⟩,
   ?_,
   ⟨PySem.W.mg_of KX G ?_,⟨?_,?_,?_,?_⟩,?_,?_⟩,
   ?_,
   ⟨PySem.W.mg_of KX G ?_,⟨?_,?_,?_,?_⟩,?_,?_⟩,
   ?_,
   ⟨PySem.W.mg_of KX G ?_,⟨?_,?_,?_,?_⟩,?_,?_⟩,
   ?_,
   ⟨PySem.W.mg_of KX G ?_,⟨?_,?_,?_,?_⟩,?_,?_⟩,
   ?_,
   ⟨PySem.W.mg_of KX G ?_,⟨?_,?_,?_,?_⟩,?_,?_⟩,
   ?_,
   ?_,
   ⟨PySem.W.mg_of KX G ?_,⟨?_,?_,?_,?_⟩,?_,?_⟩,
   ?_,
   ⟨PySem.W.mg_of KX G ?_,⟨?_,?_,?_,?_⟩,?_,?_⟩,
   ?_,
   ?_,
   ?_,
   ?_,
   ?_,
   ?_,
   PySem.W.mg_of KX G ?_,
   PySem.W.mg_of KX G ?_,
   PySem.W.mg_of KX G ?_,
   K44.q_MONTH_LASTS ?_,
   PySem.W.mg_of KX G ?_,
   PySem.W.mg_of KX G ?_,
   PySem.W.mg_of KX G ?_,
   PySem.W.mg_of KX G ?_,
   PySem.W.mg_of KX G ?_,
   K44.mg_tx (x:="0123456789") KX G (by decide +kernel) ?_,
   PySem.W.mg_of KX G ?_,
   PySem.W.mg_of KX G ?_,
   PySem.W.mg_of KX G ?_,
   PySem.W.mg_of KX G ?_,
   PySem.W.mg_of KX G ?_,
   PySem.W.mg_of KX G ?_,
   PySem.W.mg_of KX G ?_,
   PySem.W.mg_of KX G ?_,
   PySem.W.mg_of KX G ?_,
   PySem.W.mg_of KX G ?_,
   PySem.W.mg_of KX G ?_,
   PySem.W.mg_of KX G ?_,
   PySem.W.mg_of KX G ?_,
   PySem.W.mg_of KX G ?_,
   PySem.W.mg_of KX G ?_,
   PySem.W.mg_of KX G ?_,
   PySem.W.mg_of KX G ?_,
   PySem.W.mg_of KX G ?_,
   PySem.W.mg_of KX G ?_,
   K44.q_BOUNDS ?_,
   K44.q_BOUNDS_0 ?_,
   K44.q_BOUNDS_1 ?_,
   K44.q_BOUNDS_3 ?_,
   PySem.W.mg_of KX G ?_,
   PySem.W.mg_of KX G ?_,
   PySem.W.mg_none_of KX G ?_,
   PySem.W.mg_none_of KX G ?_,
   PySem.W.mg_none_of KX G ?_,
   PySem.W.mg_none_of KX G ?_,
   PySem.W.mg_none_of KX G ?_,
   PySem.W.mg_none_of KX G ?_,
   PySem.W.mg_none_of KX G ?_,
   PySem.W.mg_none_of KX G ?_,
   PySem.W.mg_none_of KX G ?_,
   PySem.W.mg_none_of KX G ?_,
   PySem.W.mg_none_of KX G ?_,
   PySem.W.mg_none_of KX G ?_,
   PySem.W.mg_none_of KX G ?_,
   PySem.W.mg_none_of KX G ?_,
   PySem.W.mg_none_of KX G ?_,
   PySem.W.mg_none_of KX G ?_,
   aaJ KX G ?_ ?_ ?_ ?_ fun _ _ _ _ _ _ us hl=>by obtain⟨_,rfl⟩:=abQ hl;rfl,
   aaJ KX G ?_ ?_ ?_ ?_ fun _ _ _ _ _ _ us hl=>by obtain⟨_,_,rfl⟩:=abY hl;rfl,
   aaJ KX G ?_ ?_ ?_ ?_ fun _ _ _ _ _ _ us hl=>by obtain⟨_,rfl⟩:=abQ hl;rfl,
   aaJ KX G ?_ ?_ ?_ ?_ fun _ _ _ _ _ _ us hl=>by obtain⟨_,_,rfl⟩:=abY hl;rfl,
   aaJ KX G ?_ ?_ ?_ ?_ fun _ _ _ _ _ _ us hl=>by obtain⟨_,rfl⟩:=abQ hl;rfl,
   aaJ KX G ?_ ?_ ?_ ?_ fun _ _ _ _ _ _ us hl=>by obtain⟨_,_,_,rfl⟩:=abZ hl;rfl,
   aaJ KX G ?_ ?_ ?_ ?_ fun _ _ _ _ _ _ us hl=>by obtain⟨_,_,_,rfl⟩:=abZ hl;rfl,
   aaJ KX G ?_ ?_ ?_ ?_ fun _ _ _ _ _ _ us hl=>by obtain⟨_,rfl⟩:=abQ hl;rfl,
   aaJ KX G ?_ ?_ ?_ ?_ fun _ _ _ _ _ _ us hl=>by obtain⟨_,rfl⟩:=abQ hl;rfl,
   aaJ KX G ?_ ?_ ?_ ?_ fun _ _ _ _ _ _ us hl=>by obtain⟨_,rfl⟩:=abQ hl;rfl,
   aaJ KX G ?_ ?_ ?_ ?_ fun _ _ _ _ _ _ us hl=>by obtain⟨_,_,_,rfl⟩:=abZ hl;rfl,
   aaJ KX G ?_ ?_ ?_ ?_ fun _ _ _ _ _ _ us hl=>by obtain⟨_,_,rfl⟩:=abY hl;rfl,
   aaJ KX G ?_ ?_ ?_ ?_ fun _ _ _ _ _ _ us hl=>by obtain⟨_,rfl⟩:=abQ hl;rfl,
   aaJ KX G ?_ ?_ ?_ ?_ fun _ _ _ _ _ _ us hl=>by obtain⟨_,rfl⟩:=abQ hl;rfl,
   aaJ KX G ?_ ?_ ?_ ?_ fun _ _ _ _ _ _ us hl=>by obtain⟨_,rfl⟩:=abQ hl;rfl,
   aaJ KX G ?_ ?_ ?_ ?_ fun _ _ _ _ _ _ us hl=>by obtain⟨_,_,rfl⟩:=abY hl;rfl,
   aaJ KX G ?_ ?_ ?_ ?_ fun _ _ _ _ _ _ us hl=>by obtain⟨_,rfl⟩:=abQ hl;rfl,
   aaJ KX G ?_ ?_ ?_ ?_ fun _ _ _ _ _ _ us hl=>by obtain⟨_,rfl⟩:=abQ hl;rfl,
   aaJ KX G ?_ ?_ ?_ ?_ fun _ _ _ _ _ _ us hl=>by obtain⟨_,_,_,rfl⟩:=abZ hl;rfl,
   aaJ KX G ?_ ?_ ?_ ?_ fun _ _ _ _ _ _ us hl=>by obtain⟨_,_,_,rfl⟩:=abZ hl;rfl,
   aaJ KX G ?_ ?_ ?_ ?_ fun _ _ _ _ _ _ us hl=>by obtain⟨_,_,_,rfl⟩:=abZ hl;rfl,
   aaJ KX G ?_ ?_ ?_ ?_ fun _ _ _ _ _ _ us hl=>by obtain⟨_,_,_,_,rfl⟩:=ap4 hl;rfl,
   aaJ KX G ?_ ?_ ?_ ?_ fun _ _ _ _ _ _ us hl=>by obtain⟨_,_,_,rfl⟩:=abZ hl;rfl,
   aaJ KX G ?_ ?_ ?_ ?_ fun _ _ _ _ _ _ us hl=>by obtain⟨_,_,_,rfl⟩:=abZ hl;rfl,
   aaJ KX G ?_ ?_ ?_ ?_ fun _ _ _ _ _ _ us hl=>by obtain⟨_,_,rfl⟩:=abY hl;rfl,
   aaJ KX G ?_ ?_ ?_ ?_ fun _ _ _ _ _ _ us hl=>by obtain⟨_,rfl⟩:=abQ hl;rfl,
   aaJ KX G ?_ ?_ ?_ ?_ fun _ _ _ _ _ _ us hl=>by obtain⟨_,_,_,rfl⟩:=abZ hl;rfl,
   aaJ KX G ?_ ?_ ?_ ?_ fun _ _ _ _ _ _ us hl=>by obtain⟨_,_,rfl⟩:=abY hl;rfl,
   abF ?_ ?_ ?_ ?_ ?_ fun _ _ _ _ _ _ us hl=>by obtain⟨_,_,_,rfl⟩:=abZ hl;rfl,
   abF ?_ ?_ ?_ ?_ ?_ fun _ _ _ _ _ _ us hl=>by obtain⟨_,_,rfl⟩:=abY hl;rfl,
   abF ?_ ?_ ?_ ?_ ?_ fun _ _ _ _ _ _ us hl=>by obtain⟨_,_,_,rfl⟩:=abZ hl;rfl,
   K44.md_Last___init__ ?_ ?_ ?_ ?_ ?_ ?_,
   abF ?_ ?_ ?_ ?_ ?_ fun _ _ _ _ _ _ us hl=>by obtain⟨_,_,_,rfl⟩:=abZ hl;rfl,
   abF ?_ ?_ ?_ ?_ ?_ fun _ _ _ _ _ _ us hl=>by obtain⟨_,_,rfl⟩:=abY hl;rfl,
   abF ?_ ?_ ?_ ?_ ?_ fun _ _ _ _ _ _ us hl=>by obtain⟨_,_,_,rfl⟩:=abZ hl;rfl,
   abF ?_ ?_ ?_ ?_ ?_ fun _ _ _ _ _ _ us hl=>by obtain⟨_,_,_,rfl⟩:=abZ hl;rfl,
   abF ?_ ?_ ?_ ?_ ?_ fun _ _ _ _ _ _ us hl=>by obtain⟨_,_,rfl⟩:=abY hl;rfl,
   abF ?_ ?_ ?_ ?_ ?_ fun _ _ _ _ _ _ us hl=>by obtain⟨_,_,_,rfl⟩:=abZ hl;rfl,
   abF ?_ ?_ ?_ ?_ ?_ fun _ _ _ _ _ _ us hl=>by obtain⟨_,_,_,rfl⟩:=abZ hl;rfl,
   abF ?_ ?_ ?_ ?_ ?_ fun _ _ _ _ _ _ us hl=>by obtain⟨_,_,_,rfl⟩:=abZ hl;rfl,
   abF ?_ ?_ ?_ ?_ ?_ fun _ _ _ _ _ _ us hl=>by obtain⟨_,_,rfl⟩:=abY hl;rfl,
   abF ?_ ?_ ?_ ?_ ?_ fun _ _ _ _ _ _ us hl=>by obtain⟨_,_,_,rfl⟩:=abZ hl;rfl,
   aaJ KX G ?_ ?_ ?_ ?_ fun _ _ _ _ _ _ us hl=>by obtain⟨_,_,_,rfl⟩:=abZ hl;rfl,
   aaJ KX G ?_ ?_ ?_ ?_ fun _ _ _ _ _ _ us hl=>by obtain⟨_,rfl⟩:=abQ hl;rfl,
   aaJ KX G ?_ ?_ ?_ ?_ fun _ _ _ _ _ _ us hl=>by obtain⟨_,rfl⟩:=abQ hl;rfl,
   aaJ KX G ?_ ?_ ?_ ?_ fun _ _ _ _ _ _ us hl=>by obtain⟨_,rfl⟩:=abQ hl;rfl,
   aaJ KX G ?_ ?_ ?_ ?_ fun _ _ _ _ _ _ us hl=>by obtain⟨_,_,_,_,rfl⟩:=ap4 hl;rfl,
   aaJ KX G ?_ ?_ ?_ ?_ fun _ _ _ _ _ _ us hl=>by obtain⟨_,rfl⟩:=abQ hl;rfl,
   aaJ KX G ?_ ?_ ?_ ?_ fun _ _ _ _ _ _ us hl=>by obtain⟨_,rfl⟩:=abQ hl;rfl,
   aaJ KX G ?_ ?_ ?_ ?_ fun _ _ _ _ _ _ us hl=>by obtain⟨_,rfl⟩:=abQ hl;rfl,
   aaJ KX G ?_ ?_ ?_ ?_ fun _ _ _ _ _ _ us hl=>by obtain⟨_,_,rfl⟩:=abY hl;rfl,
   aaJ KX G ?_ ?_ ?_ ?_ fun _ _ _ _ _ _ us hl=>by obtain⟨_,_,_,_,rfl⟩:=ap4 hl;rfl,
   abF ?_ ?_ ?_ ?_ ?_ fun _ _ _ _ _ _ us hl=>by obtain⟨_,_,rfl⟩:=abY hl;rfl,
   abF ?_ ?_ ?_ ?_ ?_ fun _ _ _ _ _ _ us hl=>by obtain⟨_,_,rfl⟩:=abY hl;rfl,
   aaJ KX G ?_ ?_ ?_ ?_ fun _ _ _ _ _ _ us hl=>by obtain⟨_,_,rfl⟩:=abY hl;rfl,
   aaJ KX G ?_ ?_ ?_ ?_ fun _ _ _ _ _ _ us hl=>by obtain⟨_,_,rfl⟩:=abY hl;rfl,
   aaJ KX G ?_ ?_ ?_ ?_ fun _ _ _ _ _ _ us hl=>by obtain⟨_,rfl⟩:=abQ hl;rfl,
   aaJ KX G ?_ ?_ ?_ ?_ fun _ _ _ _ _ _ us hl=>by obtain⟨_,_,rfl⟩:=abY hl;rfl,
   aaJ KX G ?_ ?_ ?_ ?_ fun _ _ _ _ _ _ us hl=>by obtain⟨_,rfl⟩:=abQ hl;rfl,
   aaJ KX G ?_ ?_ ?_ ?_ fun _ _ _ _ _ _ us hl=>by obtain⟨_,_,_,rfl⟩:=abZ hl;rfl,
   aaJ KX G ?_ ?_ ?_ ?_ fun _ _ _ _ _ _ us hl=>by obtain⟨_,_,_,_,_,rfl⟩:=len5 hl;rfl,
   aaJ KX G ?_ ?_ ?_ ?_ fun _ _ _ _ _ _ us hl=>by obtain⟨_,rfl⟩:=abQ hl;rfl,
   aaJ KX G ?_ ?_ ?_ ?_ fun _ _ _ _ _ _ us hl=>by obtain⟨_,_,rfl⟩:=abY hl;rfl,
   aaJ KX G ?_ ?_ ?_ ?_ fun _ _ _ _ _ _ us hl=>by obtain⟨_,_,rfl⟩:=abY hl;rfl,
   aaJ KX G ?_ ?_ ?_ ?_ fun _ _ _ _ _ _ us hl=>by obtain⟨_,_,_,rfl⟩:=abZ hl;rfl,
   aaJ KX G ?_ ?_ ?_ ?_ fun _ _ _ _ _ _ us hl=>by obtain⟨_,_,_,rfl⟩:=abZ hl;rfl,
   aaJ KX G ?_ ?_ ?_ ?_ fun _ _ _ _ _ _ us hl=>by obtain⟨_,_,_,_,rfl⟩:=ap4 hl;rfl,
   aaJ KX G ?_ ?_ ?_ ?_ fun _ _ _ _ _ _ us hl=>by obtain⟨_,_,_,_,rfl⟩:=ap4 hl;rfl,
   aaJ KX G ?_ ?_ ?_ ?_ fun _ _ _ _ _ _ us hl=>by obtain⟨_,_,_,rfl⟩:=abZ hl;rfl,
   aaJ KX G ?_ ?_ ?_ ?_ fun _ _ _ _ _ _ us hl=>by obtain⟨_,_,_,_,rfl⟩:=ap4 hl;rfl,
   aaJ KX G ?_ ?_ ?_ ?_ fun _ _ _ _ _ _ us hl=>by obtain⟨_,_,rfl⟩:=abY hl;rfl,
   aaJ KX G ?_ ?_ ?_ ?_ fun _ _ _ _ _ _ us hl=>by obtain⟨_,_,rfl⟩:=abY hl;rfl,
   abF ?_ ?_ ?_ ?_ ?_ fun _ _ _ _ _ _ us hl=>by obtain⟨_,_,rfl⟩:=abY hl;rfl,
   aaJ KX G ?_ ?_ ?_ ?_ fun _ _ _ _ _ _ us hl=>by obtain⟨_,rfl⟩:=abQ hl;rfl,
   aaJ KX G ?_ ?_ ?_ ?_ fun _ _ _ _ _ _ us hl=>by obtain⟨_,rfl⟩:=abQ hl;rfl,
   aaJ KX G ?_ ?_ ?_ ?_ fun _ _ _ _ _ _ us hl=>by obtain⟨_,_,rfl⟩:=abY hl;rfl,
   aaJ KX G ?_ ?_ ?_ ?_ fun _ _ _ _ _ _ us hl=>by obtain⟨_,rfl⟩:=abQ hl;rfl,
   aaJ KX G ?_ ?_ ?_ ?_ fun _ _ _ _ _ _ us hl=>by obtain⟨_,rfl⟩:=abQ hl;rfl,
   aaJ KX G ?_ ?_ ?_ ?_ fun _ _ _ _ _ _ us hl=>by obtain⟨_,_,rfl⟩:=abY hl;rfl,
   aaJ KX G ?_ ?_ ?_ ?_ fun _ _ _ _ _ _ us hl=>by obtain⟨_,_,rfl⟩:=abY hl;rfl,
   aaJ KX G ?_ ?_ ?_ ?_ fun _ _ _ _ _ _ us hl=>by obtain⟨_,_,_,rfl⟩:=abZ hl;rfl⟩ ?_ ?_ ?_ ?_
  all_goals try (as_aux_lemma=>k_is)
